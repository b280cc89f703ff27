/-
  What FnExactWinEvents returns, in one sentence: true, with new blocks alone; for every model and every simulator that lie in memory.
-/
import Derived.Deep.RegionHeld3
import Derived.Test.YtklldniapombiaaDLEwev09
import Derived.Test.YtklldniapombiaaDLEwev22
import Derived.Test.YtklldniapombiaaDLEwev26
namespace Go.Proofs.Ytklldniapombiaa
set_option maxRecDepth 100000
open Go.RowKit
def IsMv (m : Mdl) (til : Int) (n k : Nat) (v : Value) (w : World) : Prop := ∃ A B, v = .agg #[.slice A n n, .slice B k k, .int .i64 til] ∧ MdlV w A n B k m
theorem IsMv.up {m : Mdl} {til : Int} {n k : Nat} {v : Value} {w w' : World} (h : IsMv m til n k v w) (u : Up w w') : IsMv m til n k v w' := by
  obtain ⟨A, B, h0, h1⟩ := h
  exact ⟨A, B, h0, h1.up u⟩
def IsSv (nc nw nl : Nat) (s : Sq) (v : Value) (w : World) : Prop := ∃ g1 g2 g3 : Nat, v = .agg #[.slice (some ⟨g1, 0, none⟩) nc nc, .slice (some ⟨g2, 0, none⟩) nw nw, .slice (some ⟨g3, 0, none⟩) nl nl] ∧ SqV w (some ⟨g1, 0, none⟩) nc (some ⟨g2, 0, none⟩) nw (some ⟨g3, 0, none⟩) nl s
theorem IsSv.up {nc nw nl : Nat} {s : Sq} {v : Value} {w w' : World} (h : IsSv nc nw nl s v w) (u : Up w w') : IsSv nc nw nl s v w' := by
  obtain ⟨g1, g2, g3, h0, h1⟩ := h
  exact ⟨g1, g2, g3, h0, h1.up u⟩
/-- A list in a row of its own. -/
def IsLw (lo : Nat) (V : List Evt) (v : Value) (w : World) : Prop := w.ownsRow lo 74 6 v V.length (flat V)
theorem IsLw.up {lo : Nat} {V : List Evt} {v : Value} {w w' : World} (h : IsLw lo V v w) (u : Up w w') : IsLw lo V v w' := own_up h u
theorem ap_ne {g g' n n' : Nat} (h : g ≠ g') : Ap (some ⟨g, 0, none⟩) n (some ⟨g', 0, none⟩) n' := fun _ _ b o b' o' e1 e2 e => by
  injection e1 with e1
  injection e1 with e1 _ _
  injection e2 with e2
  injection e2 with e2 _ _
  omega
theorem IntsOwn.int {lo hi g N : Nat} {w w' : World} (h : IntsOwn w g N) (m : Ints lo hi w w') : IntsOwn w' g N := ⟨Nat.lt_of_lt_of_le h.1 m.size, fun j hj => (h.2 j hj).ints m h.1⟩
theorem own_gint {w w' : World} {b e size n lo hi : Nat} {v : Value} {xs : List Value} (h : w.ownsRow b e size v n xs) (m : Ints lo hi w w') (hb : hi ≤ b) : w'.ownsRow b e size v n xs := by
  refine ⟨h.1, ?_⟩
  rcases h.2 with h0 | ⟨g, cap, cur, rfl, hg, hh, hr⟩
  · exact .inl h0
  · exact .inr ⟨g, cap, cur, rfl, hg, (m.block g (Array.getElem?_eq_some_iff.1 hh).1 (.inr (Nat.le_trans hb hg))).trans hh, hr⟩
theorem own_gkeep {w w' : World} {b e size n : Nat} {v : Value} {xs : List Value} (h : w.ownsRow b e size v n xs) (k : ∀ g : Nat, b ≤ g → g < w.heap.size → w'.heap[g]? = w.heap[g]?) : w'.ownsRow b e size v n xs := by
  refine ⟨h.1, ?_⟩
  rcases h.2 with h0 | ⟨g, cap, cur, rfl, hg, hh, hr⟩
  · exact .inl h0
  · exact .inr ⟨g, cap, cur, rfl, hg, (k g hg (Array.getElem?_eq_some_iff.1 hh).1).trans hh, hr⟩
theorem wevV_few {m : Mdl} {n nc nw : Nat} {s : Sq} (hn : s.wait.length = nw) (hw : nw ≤ 1048576) : (wevV m n nc s).length ≤ 1048576 := by
  unfold wevV
  split
  · have := winE_len (winL m) s.wait
    omega
  · simp
def weA (VM VS : Value) (m : Mdl) (til : Int) (n k nc nw nl lo : Nat) (s : Sq) (V : List Evt) (d : Nat) (v : Value) (w : World) : Prop :=
  if d = 24 then v = VM else if d = 25 then IsMv m til n k v w else if d = 26 then v = VS else if d = 27 then IsSv nc nw nl s v w else if d = 28 then IsLw lo V v w else True
theorem weA_24 (VM VS : Value) (m : Mdl) (til : Int) (n k nc nw nl lo : Nat) (s : Sq) (V : List Evt) (v : Value) (w : World) : weA VM VS m til n k nc nw nl lo s V 24 v w = (v = VM) := by simp [weA]
theorem weA_25 (VM VS : Value) (m : Mdl) (til : Int) (n k nc nw nl lo : Nat) (s : Sq) (V : List Evt) (v : Value) (w : World) : weA VM VS m til n k nc nw nl lo s V 25 v w = (IsMv m til n k v w) := by simp [weA]
theorem weA_26 (VM VS : Value) (m : Mdl) (til : Int) (n k nc nw nl lo : Nat) (s : Sq) (V : List Evt) (v : Value) (w : World) : weA VM VS m til n k nc nw nl lo s V 26 v w = (v = VS) := by simp [weA]
theorem weA_27 (VM VS : Value) (m : Mdl) (til : Int) (n k nc nw nl lo : Nat) (s : Sq) (V : List Evt) (v : Value) (w : World) : weA VM VS m til n k nc nw nl lo s V 27 v w = (IsSv nc nw nl s v w) := by simp [weA]
theorem weA_28 (VM VS : Value) (m : Mdl) (til : Int) (n k nc nw nl lo : Nat) (s : Sq) (V : List Evt) (v : Value) (w : World) : weA VM VS m til n k nc nw nl lo s V 28 v w = (IsLw lo V v w) := by simp [weA]
theorem weA_up (VM VS : Value) (m : Mdl) (til : Int) (n k nc nw nl lo : Nat) (s : Sq) (V : List Evt) (d : Nat) {v : Value} {w w' : World} (h : weA VM VS m til n k nc nw nl lo s V d v w) (u : Up w w') : weA VM VS m til n k nc nw nl lo s V d v w' := by
  unfold weA at h ⊢
  by_cases h24 : d = 24
  · rw [if_pos h24] at h ⊢
    exact h
  rw [if_neg h24] at h ⊢
  by_cases h25 : d = 25
  · rw [if_pos h25] at h ⊢
    exact h.up u
  rw [if_neg h25] at h ⊢
  by_cases h26 : d = 26
  · rw [if_pos h26] at h ⊢
    exact h
  rw [if_neg h26] at h ⊢
  by_cases h27 : d = 27
  · rw [if_pos h27] at h ⊢
    exact h.up u
  rw [if_neg h27] at h ⊢
  by_cases h28 : d = 28
  · rw [if_pos h28] at h ⊢
    exact h.up u
  rw [if_neg h28] at h ⊢
  exact trivial
def weC (VM VS : Value) (m : Mdl) (til : Int) (n k nc nw nl lo : Nat) (s : Sq) (V : List Evt) (d : Nat) (v : Value) (w : World) : Prop :=
  if d = 75 then v = VM else if d = 76 then IsMv m til n k v w else if d = 77 then v = VS else if d = 78 then IsSv nc nw nl s v w else if d = 79 then IsLw lo V v w else True
theorem weC_75 (VM VS : Value) (m : Mdl) (til : Int) (n k nc nw nl lo : Nat) (s : Sq) (V : List Evt) (v : Value) (w : World) : weC VM VS m til n k nc nw nl lo s V 75 v w = (v = VM) := by simp [weC]
theorem weC_76 (VM VS : Value) (m : Mdl) (til : Int) (n k nc nw nl lo : Nat) (s : Sq) (V : List Evt) (v : Value) (w : World) : weC VM VS m til n k nc nw nl lo s V 76 v w = (IsMv m til n k v w) := by simp [weC]
theorem weC_77 (VM VS : Value) (m : Mdl) (til : Int) (n k nc nw nl lo : Nat) (s : Sq) (V : List Evt) (v : Value) (w : World) : weC VM VS m til n k nc nw nl lo s V 77 v w = (v = VS) := by simp [weC]
theorem weC_78 (VM VS : Value) (m : Mdl) (til : Int) (n k nc nw nl lo : Nat) (s : Sq) (V : List Evt) (v : Value) (w : World) : weC VM VS m til n k nc nw nl lo s V 78 v w = (IsSv nc nw nl s v w) := by simp [weC]
theorem weC_79 (VM VS : Value) (m : Mdl) (til : Int) (n k nc nw nl lo : Nat) (s : Sq) (V : List Evt) (v : Value) (w : World) : weC VM VS m til n k nc nw nl lo s V 79 v w = (IsLw lo V v w) := by simp [weC]
theorem weC_up (VM VS : Value) (m : Mdl) (til : Int) (n k nc nw nl lo : Nat) (s : Sq) (V : List Evt) (d : Nat) {v : Value} {w w' : World} (h : weC VM VS m til n k nc nw nl lo s V d v w) (u : Up w w') : weC VM VS m til n k nc nw nl lo s V d v w' := by
  unfold weC at h ⊢
  by_cases h75 : d = 75
  · rw [if_pos h75] at h ⊢
    exact h
  rw [if_neg h75] at h ⊢
  by_cases h76 : d = 76
  · rw [if_pos h76] at h ⊢
    exact h.up u
  rw [if_neg h76] at h ⊢
  by_cases h77 : d = 77
  · rw [if_pos h77] at h ⊢
    exact h
  rw [if_neg h77] at h ⊢
  by_cases h78 : d = 78
  · rw [if_pos h78] at h ⊢
    exact h.up u
  rw [if_neg h78] at h ⊢
  by_cases h79 : d = 79
  · rw [if_pos h79] at h ⊢
    exact h.up u
  rw [if_neg h79] at h ⊢
  exact trivial
set_option maxHeartbeats 16000000 in
theorem walkEwev (v : Value) (m : Mdl) (v' : Value) (s : Sq) {w : World} (h : ∃ A n c B k d, v = .agg #[.slice A n c, .slice B k d, .int .i64 m.til] ∧ MdlV w A n B k m)
    (h' : ∃ Ac nc cc Aw nw cw Al nl cl, v' = .agg #[.slice Ac nc cc, .slice Aw nw cw, .slice Al nl cl] ∧ (nc ≤ 9223372036854775807 ∧ nw ≤ 9223372036854775807 ∧ nl ≤ 9223372036854775807) ∧ SqV w Ac nc Aw nw Al nl s) :
    Calls Try.prog 6 #[v, v'] w fun x w' => x = .returned (.bool true) ∧ Up w w' := by
  obtain ⟨A, n, c, B, k, d, rfl, hM⟩ := h; obtain ⟨Ac, nc, cc, Aw, nw, cw, Al, nl, cl, rfl, ⟨bc, bw, bl⟩, hV⟩ := h'
  have HM := Lib.hid hM
  have hk := hM.big
  have B0 := Lib.hid ((Box3.new w (.slice A n c) (.slice B k d) (.int .i64 m.til) 25).up ((Up.refl _).alloc (.cells #[.slice Ac nc cc, .slice Aw nw cw, .slice Al nl cl] 56)))
  have B1 := Box3.new (w.alloc (.cells #[.slice A n c, .slice B k d, .int .i64 m.til] 25)) (.slice Ac nc cc) (.slice Aw nw cw) (.slice Al nl cl) 56
  simp only [World.size_alloc] at B1
  have B1 := Lib.hid B1
  have UC := Lib.hid (((Up.refl w).alloc (.cells #[.slice A n c, .slice B k d, .int .i64 m.til] 25)).alloc (.cells #[.slice Ac nc cc, .slice Aw nw cw, .slice Al nl cl] 56))
  have CS := Lib.hid (fun W (u : Up w W) => szMdl_any A n c B k d m W (hM.up u))
  have CZ := Lib.hid (fun l W a b => szSq_sum Ac nc cc Aw nw cw Al nl cl l W a b bc bw bl)
  have CT := Lib.hid (fun W (u : Up w W) hS => toMdl_any A n c B k d m W (hM.up u) hS)
  have CQ := Lib.hid (fun W (u : Up w W) hS => toSq_own Ac nc cc Aw nw cw Al nl cl s W hS (hV.up u))
  have CP := Lib.hid (fun A B Ac Aw Al W (h : MdlV W A n B k m) (hS : ShortSq nc nw nl) (hv : SqV W Ac nc Aw nw Al nl s) => specWev_any A n n B k k m Ac nc nc Aw nw nw Al nl nl s W h hS hv)
  have CI := Lib.hid (fun A B Ac Aw Al W (h : MdlV W A n B k m) (hS : ShortSq nc nw nl) (hv : SqV W Ac nc Aw nw Al nl s) => implWev_any A n n B k k m Ac nc nc Aw nw nw Al nl nl s W h hS hv)
  have fw := fun hw => wevV_few (m := m) (n := n) (nc := nc) hV.wait.1 hw
  have CE := Lib.hid (fun A n c B k d A' n' c' B' k' d' W (h1 : MdlV W A n B k m) (h2 : MdlV W A' n' B' k' m) (hS : FitM m) => eqMdl_any A n c B k d m A' n' c' B' k' d' m W h1 h2 hS)
  have CV := Lib.hid (fun Ac Aw Al Bc Bw Bl W (hS : ShortSq nc nw nl) (h1 : SqV W Ac nc Aw nw Al nl s) (h2 : SqV W Bc nc Bw nw Bl nl s) => eqSq_any Ac nc nc Aw nw nw Al nl nl s Bc nc nc Bw nw nw Bl nl nl s W (by have := hS.c; omega) (by have := hS.w; omega) (by have := hS.l; omega) h1 h2)
  rw [decide_eq_true (rfl : m = m)] at CE; rw [decide_eq_true (rfl : s = s)] at CV
  generalize wevV m n nc s = V at CP CI fw
  have CR := Lib.hid (fun A c A' c' W (h1 : Evs W A V.length V) (h2 : Evs W A' V.length V) => fun hn => eqS_any A A' V.length V.length c c' V V W hn h1 h2)
  rw [decide_eq_true (rfl : V = V)] at CR; clear hM hV; unfold NewMdl at CT
  generalize htil : m.til = til at *
  go_enter Try.func6, Try.ntmps6
  go_wp2_with fail
  generalize (w.alloc (.cells #[.slice A n c, .slice B k d, .int .i64 til] 25)).alloc (.cells #[.slice Ac nc cc, .slice Aw nw cw, .slice Al nl cl] 56) = W at *
  generalize hb1 : w.heap.size + 1 = b1 at *
  generalize hb0 : w.heap.size = b0 at *
  clear hb1 hb0; refine (CS.out _ UC.out).mono ?_; rintro x w1 ⟨z, rfl, hz, u1⟩
  have UC := Lib.hid (UC.out.trans u1)
  have B0 := Lib.hid (B0.out.up u1)
  have B1 := Lib.hid (B1.out.up u1)
  clear u1
  rcases hz with rfl | ⟨z0, z1, hS⟩
  · go_wp2
    go_ret
    exact ⟨rfl, UC.out⟩
  have SH := Lib.hid hS
  have j0 : ¬ z < 0 := by omega
  have hn6 : n ≤ 1048576 := hS.few
  have hk6 : k ≤ 1048576 := by have := hS.fit.2; have := HM.out.starts.1; omega
  clear hS; obtain ⟨p0, p1, p2⟩ := And.intro B1.out.c0 (And.intro B1.out.c1 B1.out.c2)
  go_wp2_with fail
  refine (CZ.out z _ z0 z1).mono ?_; rintro x w2 ⟨y, rfl, hz, u1⟩
  have UC := Lib.hid (UC.out.trans u1)
  have B0 := Lib.hid (B0.out.up u1)
  have B1 := Lib.hid (B1.out.up u1)
  clear u1 p0 p1 p2
  rcases hz with rfl | ⟨y0, y1, hS, hsum⟩
  · go_wp2
    go_ret
    exact ⟨rfl, UC.out⟩
  have SS := Lib.hid hS
  have HSS := Lib.hid (show nc + nw + nl ≤ 1048576 by omega)
  have FW := Lib.hid (fw SS.out.w)
  have FW9 := Lib.hid (show V.length ≤ 1000000000 by have := FW.out; omega)
  have j1 : ¬ y < 0 := by omega
  clear hS hsum fw
  go_wp2_with fail
  generalize w2 = W0 at *
  refine region_relyT 5 [] [(5, false)] [24, 25, 26, 27, 28] 5 (fun _ w1 => Up W0 w1) Up (fun i v w => weA (.agg #[.slice A n c, .slice B k d, .int .i64 til]) (.agg #[.slice Ac nc cc, .slice Aw nw cw, .slice Al nl cl]) m til n k nc nw nl W0.heap.size s V i v w) (by kernel_rfl) (by kernel_rfl) (by kernel_rfl) (by kernel_rfl) ((Up.refl _).drew) (fun slot_ _ _ _ h u => weA_up (.agg #[.slice A n c, .slice B k d, .int .i64 til]) (.agg #[.slice Ac nc cc, .slice Aw nw cw, .slice Al nl cl]) m til n k nc nw nl W0.heap.size s V slot_ h u) ?_ ?_ ?_
  · simp only [List.take_succ_cons, List.take_zero]
    refine stepsT_op (by kernel_rfl) ?_ ?_
    · intro X w1 k1 hG hdep
      obtain ⟨q0, q1, q2⟩ := And.intro (B0.out.up hG).c0 (And.intro (B0.out.up hG).c1 (B0.out.up hG).c2); simp only [opW_def, mixT]; go_simp
      exact ⟨⟨_, by first | rfl | simp [Act.put], Up.refl _, hG, (show weA (.agg #[.slice A n c, .slice B k d, .int .i64 til]) (.agg #[.slice Ac nc cc, .slice Aw nw cw, .slice Al nl cl]) m til n k nc nw nl W0.heap.size s V 24 _ _ from by first | (rw [weA_24]; exact rfl) | rw [weA_24])⟩⟩
    refine stepsT_op (by kernel_rfl) ?_ ?_
    · intro X w1 k1 hG hdep
      have e24 : weA (.agg #[.slice A n c, .slice B k d, .int .i64 til]) (.agg #[.slice Ac nc cc, .slice Aw nw cw, .slice Al nl cl]) m til n k nc nw nl W0.heap.size s V 24 (X 24) w1 := hdep 24 (by decide +kernel)
      rw [weA_24] at e24; simp only [opW_def, mixT, e24]; go_simp; refine (CT.out _ (UC.out.trans hG) SH.out).mono ?_; rintro x w2 ⟨g1, g2, rfl, _, _, o1, o2, u⟩
      exact ⟨⟨_, by first | rfl | simp [Act.put], u, hG.trans u, (show weA (.agg #[.slice A n c, .slice B k d, .int .i64 til]) (.agg #[.slice Ac nc cc, .slice Aw nw cw, .slice Al nl cl]) m til n k nc nw nl W0.heap.size s V 25 _ _ from by first | (rw [weA_25]; exact ⟨_, _, rfl, NewMdl.v o1 o2 hk⟩) | rw [weA_25])⟩⟩
    refine stepsT_op (by kernel_rfl) ?_ ?_
    · intro X w1 k1 hG hdep
      obtain ⟨q0, q1, q2⟩ := And.intro (B1.out.up hG).c0 (And.intro (B1.out.up hG).c1 (B1.out.up hG).c2); simp only [opW_def, mixT]; go_simp
      exact ⟨⟨_, by first | rfl | simp [Act.put], Up.refl _, hG, (show weA (.agg #[.slice A n c, .slice B k d, .int .i64 til]) (.agg #[.slice Ac nc cc, .slice Aw nw cw, .slice Al nl cl]) m til n k nc nw nl W0.heap.size s V 26 _ _ from by first | (rw [weA_26]; exact rfl) | rw [weA_26])⟩⟩
    refine stepsT_op (by kernel_rfl) ?_ ?_
    · intro X w1 k1 hG hdep
      have e26 : weA (.agg #[.slice A n c, .slice B k d, .int .i64 til]) (.agg #[.slice Ac nc cc, .slice Aw nw cw, .slice Al nl cl]) m til n k nc nw nl W0.heap.size s V 26 (X 26) w1 := hdep 26 (by decide +kernel)
      rw [weA_26] at e26; simp only [opW_def, mixT, e26]; go_simp; refine (CQ.out _ (UC.out.trans hG) SS.out).mono ?_; rintro x w2 ⟨g1, g2, g3, rfl, v, _, u⟩
      exact ⟨⟨_, by first | rfl | simp [Act.put], u, hG.trans u, (show weA (.agg #[.slice A n c, .slice B k d, .int .i64 til]) (.agg #[.slice Ac nc cc, .slice Aw nw cw, .slice Al nl cl]) m til n k nc nw nl W0.heap.size s V 27 _ _ from by first | (rw [weA_27]; exact ⟨_, _, _, rfl, v⟩) | rw [weA_27])⟩⟩
    refine stepsT_op (by kernel_rfl) ?_ ?_
    · intro X w1 k1 hG hdep
      have e25 : weA (.agg #[.slice A n c, .slice B k d, .int .i64 til]) (.agg #[.slice Ac nc cc, .slice Aw nw cw, .slice Al nl cl]) m til n k nc nw nl W0.heap.size s V 25 (X 25) w1 := hdep 25 (by decide +kernel)
      rw [weA_25] at e25; obtain ⟨A1, B1, e25, mv⟩ := e25
      have e27 : weA (.agg #[.slice A n c, .slice B k d, .int .i64 til]) (.agg #[.slice Ac nc cc, .slice Aw nw cw, .slice Al nl cl]) m til n k nc nw nl W0.heap.size s V 27 (X 27) w1 := hdep 27 (by decide +kernel)
      rw [weA_27] at e27; obtain ⟨g1, g2, g3, e27, sv⟩ := e27; simp only [opW_def, mixT, e25, e27]; go_simp; refine (CP.out _ _ _ _ _ w1 mv SS.out sv).mono ?_; rintro x w2 ⟨v, rfl, ho, u⟩
      exact ⟨⟨_, by first | rfl | simp [Act.put], u, hG.trans u, (show weA (.agg #[.slice A n c, .slice B k d, .int .i64 til]) (.agg #[.slice Ac nc cc, .slice Aw nw cw, .slice Al nl cl]) m til n k nc nw nl W0.heap.size s V 28 _ _ from by first | (rw [weA_28]; exact own_mono ho hG.size) | rw [weA_28])⟩⟩
    exact trivial
  · intro h p _ hp
    cases hp
  · intro X w1 hG hR
    have e28 : weA (.agg #[.slice A n c, .slice B k d, .int .i64 til]) (.agg #[.slice Ac nc cc, .slice Aw nw cw, .slice Al nl cl]) m til n k nc nw nl W0.heap.size s V 28 (X 28) w1 := hR 4 (by omega)
    rw [weA_28] at e28; unfold IsLw at e28; obtain ⟨_, P6, P6c, hv_, _, _⟩ := own_slice e28; simp only [mixT]; rw [hv_]
    have ho := e28
    rw [hv_] at ho
    have OL := Lib.hid ho
    have UX := Lib.hid hG
    clear hR hG hv_ e28 ho; refine mix_go rfl (by rfl) (fun K hK => ?_); go_simp; refine hK _ _ ?_; clear hK K; refine mix_nil ?_
    have UC := Lib.hid (UC.out.trans UX.out)
    have B0 := Lib.hid (B0.out.up UX.out)
    have B1 := Lib.hid (B1.out.up UX.out)
    have SV := Lib.hid (own_evs OL.out)
    clear UX OL
    generalize w1 = W3 at *
    have UC3 := Lib.hid UC.out
    have B03 := Lib.hid B0.out
    have B13 := Lib.hid B1.out
    obtain ⟨q0, q1, q2⟩ := And.intro B0.out.c0 (And.intro B0.out.c1 B0.out.c2)
    go_wp2_with fail
    refine (CT.out _ UC.out SH.out).mono ?_; rintro x w4 ⟨g1, g2, rfl, hg1, hg2, o1, o2, u4⟩
    have SZ1 := Lib.hid (o1.sh (lo := W3.heap.size) (hi := w4.heap.size) SH.out.shorts hg1 (Nat.le_refl _))
    have SZ2 := Lib.hid (o2.sh (lo := W3.heap.size) (hi := w4.heap.size) hg2 (Nat.le_refl _))
    have ua := (Up.refl w4).alloc (.cells #[.slice (some ⟨g1, 0, none⟩) n n, .slice (some ⟨g2, 0, none⟩) k k, .int .i64 til] 36)
    have X8 := Lib.hid (Box3.new w4 (.slice (some ⟨g1, 0, none⟩) n n) (.slice (some ⟨g2, 0, none⟩) k k) (.int .i64 til) 36)
    have VX := Lib.hid ((NewMdl.v o1 o2 hk).up ua)
    have SZ1 := Lib.hid (SZ1.out.ints ua.ints)
    have SZ2 := Lib.hid (SZ2.out.ints ua.ints)
    have U3 := Lib.hid (u4.trans ua)
    have HI4 := Lib.hid (show W3.heap.size ≤ w4.heap.size from u4.size)
    have UC := Lib.hid (UC.out.trans U3.out)
    have B0 := Lib.hid (B0.out.up U3.out)
    have B1 := Lib.hid (B1.out.up U3.out)
    clear o1 o2 u4 ua q0 q1 q2 hg1 hg2; obtain ⟨p0, p1, p2⟩ := And.intro B1.out.c0 (And.intro B1.out.c1 B1.out.c2)
    go_wp2_with fail
    have HV4 := Lib.hid (show w4.heap.size + 1 = (w4.alloc (.cells #[.slice (some ⟨g1, 0, none⟩) n n, .slice (some ⟨g2, 0, none⟩) k k, .int .i64 til] 36)).heap.size by simp)
    generalize hb8 : w4.heap.size = b8 at *
    generalize w4.alloc (.cells #[.slice (some ⟨g1, 0, none⟩) n n, .slice (some ⟨g2, 0, none⟩) k k, .int .i64 til] 36) = W4 at *
    clear hb8; refine (CQ.out _ UC.out SS.out).mono ?_; rintro x w5 ⟨g3, g4, g5, rfl, sv, ⟨i1, i2, i3, lg3, lg4, lg5⟩, u5⟩
    have ua := (Up.refl w5).alloc (.cells #[.slice (some ⟨g3, 0, none⟩) nc nc, .slice (some ⟨g4, 0, none⟩) nw nw, .slice (some ⟨g5, 0, none⟩) nl nl] 62)
    have X9 := Lib.hid (Box3.new w5 (.slice (some ⟨g3, 0, none⟩) nc nc) (.slice (some ⟨g4, 0, none⟩) nw nw) (.slice (some ⟨g5, 0, none⟩) nl nl) 62)
    have V9 := Lib.hid (sv.up ua)
    have I9 := Lib.hid (And.intro (i1.up ua) (And.intro (i2.up ua) (i3.up ua)))
    have LG := Lib.hid (show W4.heap.size ≤ g3 ∧ g3 < g4 ∧ g4 < g5 ∧ g5 < w5.heap.size from ⟨lg3, lg4, lg5, i3.1⟩)
    have u := u5.trans ua
    have U3 := Lib.hid (U3.out.trans u)
    have UC := Lib.hid (UC.out.trans u)
    have B0 := Lib.hid (B0.out.up u)
    have B1 := Lib.hid (B1.out.up u)
    have VX := Lib.hid (VX.out.up u)
    have SZ1 := Lib.hid (SZ1.out.ints u.ints)
    have SZ2 := Lib.hid (SZ2.out.ints u.ints)
    have X8c := X8.out.up u5
    clear sv i1 i2 i3 lg3 lg4 lg5 ua p0 p1 p2; obtain ⟨p0, p1, p2⟩ := And.intro X8c.c0 (And.intro X8c.c1 X8c.c2)
    have pl := X8c.lt
    have X8 := Lib.hid (X8.out.up u)
    clear X8c u5 u
    go_wp2_with fail
    have HV5 := Lib.hid (show w5.heap.size + 1 = (w5.alloc (.cells #[.slice (some ⟨g3, 0, none⟩) nc nc, .slice (some ⟨g4, 0, none⟩) nw nw, .slice (some ⟨g5, 0, none⟩) nl nl] 62)).heap.size by simp)
    generalize hb9 : w5.heap.size = b9 at *
    generalize w5.alloc (.cells #[.slice (some ⟨g3, 0, none⟩) nc nc, .slice (some ⟨g4, 0, none⟩) nw nw, .slice (some ⟨g5, 0, none⟩) nl nl] 62) = W5 at *
    clear hb9 p0 p1 p2 pl
    have W45 := Lib.hid (show W3.heap.size ≤ W4.heap.size ∧ W4.heap.size ≤ W5.heap.size ∧ b8 < W4.heap.size ∧ b9 < W5.heap.size by have h1 := HI4.out; have h2 := HV4.out; have h3 := LG.out; have h4 := HV5.out; omega)
    refine (CI.out _ _ _ _ _ _ VX.out SS.out V9.out).mono ?_; rintro x w6 ⟨v9, rfl, ho9, u⟩; obtain ⟨_, G9, c9, rfl, _, _⟩ := own_slice ho9
    have OG := Lib.hid ho9
    have U3 := Lib.hid (U3.out.trans u)
    have X8 := Lib.hid (X8.out.up u)
    have X9 := Lib.hid (X9.out.up u)
    have VX := Lib.hid (VX.out.up u)
    have V9 := Lib.hid (V9.out.up u)
    have I9 := Lib.hid (And.intro (I9.out.1.up u) (And.intro (I9.out.2.1.up u) (I9.out.2.2.up u)))
    have SZ1 := Lib.hid (SZ1.out.ints u.ints)
    have SZ2 := Lib.hid (SZ2.out.ints u.ints)
    clear ho9 u
    go_wp2_with fail
    refine (CR.out _ _ _ _ _ (own_evs OG.out) (SV.out.up U3.out) FW9.out).mono ?_; rintro x w7 ⟨rfl, u⟩
    have U3 := Lib.hid (U3.out.trans u)
    have X8 := Lib.hid (X8.out.up u)
    have X9 := Lib.hid (X9.out.up u)
    have OG := Lib.hid (own_up OG.out u)
    have VX := Lib.hid (VX.out.up u)
    have V9 := Lib.hid (V9.out.up u)
    have I9 := Lib.hid (And.intro (I9.out.1.up u) (And.intro (I9.out.2.1.up u) (I9.out.2.2.up u)))
    have SZ1 := Lib.hid (SZ1.out.ints u.ints)
    have SZ2 := Lib.hid (SZ2.out.ints u.ints)
    clear u
    have UC := Lib.hid (UC3.out.trans U3.out)
    have B0 := Lib.hid (B03.out.up U3.out)
    have B1 := Lib.hid (B13.out.up U3.out)
    go_wp2_with fail
    have HB := And.intro B0.out.lt (And.intro X8.out.lt (And.intro B0.out.c0 (And.intro B0.out.c1 (And.intro B0.out.c2 (And.intro X8.out.c0 (And.intro X8.out.c1 X8.out.c2))))))
    have HH := Lib.hid HB
    obtain ⟨l0, l1, q0, q1, q2, r0, r1, r2⟩ := HB
    go_region_held3 (fun w' => b0 < w'.heap.size ∧ b8 < w'.heap.size ∧ w'.cell? ⟨b0, 0, none⟩ = some (.slice A n c) ∧ w'.cell? ⟨b0, 1, none⟩ = some (.slice B k d) ∧ w'.cell? ⟨b0, 2, none⟩ = some (.int .i64 til) ∧ w'.cell? ⟨b8, 0, none⟩ = some (.slice (some ⟨g1, 0, none⟩) n n) ∧ w'.cell? ⟨b8, 1, none⟩ = some (.slice (some ⟨g2, 0, none⟩) k k) ∧ w'.cell? ⟨b8, 2, none⟩ = some (.int .i64 til))
      (first | (exact HH.out) | (exact two_up uF (by assumption)) | (exact two_up uE (by assumption)))
      (first
        | (go_at_call 14; refine (CT.out _ (UC.out.trans (Up.refl _).drew) SH.out).mono ?_; rintro x wE ⟨g6, g7, rfl, hg5, hg6, o5, o6, uE⟩; have VE := Lib.hid (NewMdl.v o5 o6 hk); clear o5 o6)
        | (go_at_call 17; refine (CE.out _ n n _ k k _ n n _ k k _ (VX.out.up ((Up.refl _).drew.trans uE)) VE.out SH.out.fit).mono ?_; rintro x wF ⟨rfl, uF⟩))
    have u := ((Up.refl w7).drew.trans uE).trans uF
    have U3 := Lib.hid (U3.out.trans u)
    have X8 := Lib.hid (X8.out.up u)
    have X9 := Lib.hid (X9.out.up u)
    have OG := Lib.hid (own_up OG.out u)
    have VX := Lib.hid (VX.out.up u)
    have V9 := Lib.hid (V9.out.up u)
    have I9 := Lib.hid (And.intro (I9.out.1.up u) (And.intro (I9.out.2.1.up u) (I9.out.2.2.up u)))
    have SZ1 := Lib.hid (SZ1.out.ints u.ints)
    have SZ2 := Lib.hid (SZ2.out.ints u.ints)
    have UC := Lib.hid (UC.out.trans u)
    have B1 := Lib.hid (B1.out.up u)
    clear u uE uF l0 l1 q0 q1 q2 r0 r1 r2 VE HH B0
    go_wp2_with fail
    have HB := And.intro B1.out.lt (And.intro X9.out.lt (And.intro B1.out.c0 (And.intro B1.out.c1 (And.intro B1.out.c2 (And.intro X9.out.c0 (And.intro X9.out.c1 X9.out.c2))))))
    have HH := Lib.hid HB
    obtain ⟨l0, l1, q0, q1, q2, r0, r1, r2⟩ := HB
    go_region_held3 (fun w' => b1 < w'.heap.size ∧ b9 < w'.heap.size ∧ w'.cell? ⟨b1, 0, none⟩ = some (.slice Ac nc cc) ∧ w'.cell? ⟨b1, 1, none⟩ = some (.slice Aw nw cw) ∧ w'.cell? ⟨b1, 2, none⟩ = some (.slice Al nl cl) ∧ w'.cell? ⟨b9, 0, none⟩ = some (.slice (some ⟨g3, 0, none⟩) nc nc) ∧ w'.cell? ⟨b9, 1, none⟩ = some (.slice (some ⟨g4, 0, none⟩) nw nw) ∧ w'.cell? ⟨b9, 2, none⟩ = some (.slice (some ⟨g5, 0, none⟩) nl nl))
      (first | (exact HH.out) | (exact two_up uF (by assumption)) | (exact two_up uE (by assumption)))
      (first
        | (go_at_call 26; refine (CQ.out _ (UC.out.trans (Up.refl _).drew) SS.out).mono ?_; rintro x wE ⟨g6, g7, g8, rfl, ve, _, uE⟩; have VE := Lib.hid ve; clear ve)
        | (go_at_call 29; refine (CV.out _ _ _ _ _ _ _ SS.out (V9.out.up ((Up.refl _).drew.trans uE)) VE.out).mono ?_; rintro x wG ⟨rfl, uF⟩))
    have u := ((Up.refl wF).drew.trans uE).trans uF
    have U3 := Lib.hid (U3.out.trans u)
    have X8 := Lib.hid (X8.out.up u)
    have X9 := Lib.hid (X9.out.up u)
    have OG := Lib.hid (own_up OG.out u)
    have VX := Lib.hid (VX.out.up u)
    have V9 := Lib.hid (V9.out.up u)
    have I9 := Lib.hid (And.intro (I9.out.1.up u) (And.intro (I9.out.2.1.up u) (I9.out.2.2.up u)))
    have SZ1 := Lib.hid (SZ1.out.ints u.ints)
    have SZ2 := Lib.hid (SZ2.out.ints u.ints)
    clear u uE uF l0 l1 q0 q1 q2 r0 r1 r2 VE HH B1 UC V9 VX; obtain ⟨q0, q1, q2⟩ := And.intro X8.out.c0 (And.intro X8.out.c1 X8.out.c2)
    go_wp2_with fail
    refine (markMdl_any W3.heap.size b8 g1 g2 n n k k til _ hn6 hk6 SZ1.out SZ2.out (Nat.le_of_lt X8.out.lt)).mono ?_; rintro x wm ⟨mz, rfl, hmz0, hmz1, m8⟩
    have HMZ := Lib.hid (And.intro hmz0 hmz1)
    have X9 := Lib.hid (X9.out.ints m8 (by have := LG.out; have := W45.out; have := HV5.out; omega))
    have OG := Lib.hid (own_gint OG.out m8 (by have := W45.out; omega))
    have I9 := Lib.hid (And.intro (I9.out.1.int m8) (And.intro (I9.out.2.1.int m8) (I9.out.2.2.int m8)))
    have U3 := Lib.hid (m8.up U3.out (Nat.le_refl _))
    clear m8 q0 q1 q2 SZ1 SZ2 X8 hmz0 hmz1; obtain ⟨q0, q1, q2⟩ := And.intro X9.out.c0 (And.intro X9.out.c1 X9.out.c2)
    have nzm : ¬ mz < 0 := by have := HMZ.out; omega
    go_wp2_with fail
    refine (markSq_k W4.heap.size mz _ nc nc _ nw nw _ nl nl _ HMZ.out SS.out.c SS.out.w SS.out.l (fun _ => ⟨g3, rfl, LG.out.1, I9.out.1⟩) (fun _ => ⟨g4, rfl, by have := LG.out; omega, I9.out.2.1⟩) (fun _ => ⟨g5, rfl, by have := LG.out; omega, I9.out.2.2⟩) (ap_ne (by have := LG.out; omega)) (ap_ne (by have := LG.out; omega)) (ap_ne (by have := LG.out; omega))).mono ?_; rintro x wn ⟨rfl, hup, hkb, hsz⟩
    have KB := Lib.hid (fun b (h1 : W5.heap.size ≤ b) (h2 : b < wm.heap.size) => hkb b h2 (fun _ g e => by injection e with e; injection e with e _ _; have := LG.out; have := W45.out; have := HV5.out; omega) (fun _ g e => by injection e with e; injection e with e _ _; have := LG.out; have := W45.out; have := HV5.out; omega) (fun _ g e => by injection e with e; injection e with e _ _; have := LG.out; have := W45.out; have := HV5.out; omega))
    have OG := Lib.hid (own_gkeep OG.out (fun g h1 h2 => KB.out g h1 h2))
    have U3 := Lib.hid (hup _ U3.out W45.out.1)
    have jm : ¬ (mz + 3 * (nc : Int) + 6 * (nw : Int) + 7 * (nl : Int)) < 0 := by have := HMZ.out; omega
    clear hup hkb hsz q0 q1 q2 KB I9 X9
    go_wp2_with fail
    refine (CR.out _ _ _ _ _ (own_evs OG.out) (SV.out.up U3.out) FW9.out).mono ?_; rintro x wp ⟨rfl, u⟩
    have U3 := Lib.hid (U3.out.trans u)
    have OG := Lib.hid (own_up OG.out u)
    clear u
    go_wp2_with fail
    refine (mark_own G9 V.length c9 _ (by have := FW.out; omega) OG.out).mono ?_; rintro x wq ⟨rfl, hev, gq, hgq, mvq⟩
    have HE := Lib.hid hev
    have U3 := Lib.hid (mvq.up U3.out (by have := W45.out; omega))
    have jq : ¬ (1 + 6 * (V.length : Int)) < 0 := by omega
    clear hev mvq hgq OG
    go_wp2_with fail
    refine (held_any G9 V.length c9 _ (by have := FW.out; omega) HE.out).mono ?_; rintro x W9 ⟨rfl, u⟩
    have HE := Lib.hid (HE.out.up u)
    have U3 := Lib.hid (U3.out.trans u)
    have UC := Lib.hid (UC3.out.trans U3.out)
    have B0 := Lib.hid (B03.out.up U3.out)
    have B1 := Lib.hid (B13.out.up U3.out)
    clear u
    go_wp2_with fail
    refine region_relyT 5 [] [(5, false)] [75, 76, 77, 78, 79] 5 (fun _ w1 => Up W9 w1) Up (fun i v w => weC (.agg #[.slice A n c, .slice B k d, .int .i64 til]) (.agg #[.slice Ac nc cc, .slice Aw nw cw, .slice Al nl cl]) m til n k nc nw nl W9.heap.size s V i v w) (by kernel_rfl) (by kernel_rfl) (by kernel_rfl) (by kernel_rfl) ((Up.refl _).drew) (fun slot_ _ _ _ h u => weC_up (.agg #[.slice A n c, .slice B k d, .int .i64 til]) (.agg #[.slice Ac nc cc, .slice Aw nw cw, .slice Al nl cl]) m til n k nc nw nl W9.heap.size s V slot_ h u) ?_ ?_ ?_
    · simp only [List.take_succ_cons, List.take_zero]
      refine stepsT_op (by kernel_rfl) ?_ ?_
      · intro X w1 k1 hG hdep
        obtain ⟨q0, q1, q2⟩ := And.intro (B0.out.up hG).c0 (And.intro (B0.out.up hG).c1 (B0.out.up hG).c2); simp only [opW_def, mixT]; go_simp
        exact ⟨⟨_, by first | rfl | simp [Act.put], Up.refl _, hG, (show weC (.agg #[.slice A n c, .slice B k d, .int .i64 til]) (.agg #[.slice Ac nc cc, .slice Aw nw cw, .slice Al nl cl]) m til n k nc nw nl W9.heap.size s V 75 _ _ from by first | (rw [weC_75]; exact rfl) | rw [weC_75])⟩⟩
      refine stepsT_op (by kernel_rfl) ?_ ?_
      · intro X w1 k1 hG hdep
        have e75 : weC (.agg #[.slice A n c, .slice B k d, .int .i64 til]) (.agg #[.slice Ac nc cc, .slice Aw nw cw, .slice Al nl cl]) m til n k nc nw nl W9.heap.size s V 75 (X 75) w1 := hdep 75 (by decide +kernel)
        rw [weC_75] at e75; simp only [opW_def, mixT, e75]; go_simp; refine (CT.out _ (UC.out.trans hG) SH.out).mono ?_; rintro x w2 ⟨g1, g2, rfl, _, _, o1, o2, u⟩
        exact ⟨⟨_, by first | rfl | simp [Act.put], u, hG.trans u, (show weC (.agg #[.slice A n c, .slice B k d, .int .i64 til]) (.agg #[.slice Ac nc cc, .slice Aw nw cw, .slice Al nl cl]) m til n k nc nw nl W9.heap.size s V 76 _ _ from by first | (rw [weC_76]; exact ⟨_, _, rfl, NewMdl.v o1 o2 hk⟩) | rw [weC_76])⟩⟩
      refine stepsT_op (by kernel_rfl) ?_ ?_
      · intro X w1 k1 hG hdep
        obtain ⟨q0, q1, q2⟩ := And.intro (B1.out.up hG).c0 (And.intro (B1.out.up hG).c1 (B1.out.up hG).c2); simp only [opW_def, mixT]; go_simp
        exact ⟨⟨_, by first | rfl | simp [Act.put], Up.refl _, hG, (show weC (.agg #[.slice A n c, .slice B k d, .int .i64 til]) (.agg #[.slice Ac nc cc, .slice Aw nw cw, .slice Al nl cl]) m til n k nc nw nl W9.heap.size s V 77 _ _ from by first | (rw [weC_77]; exact rfl) | rw [weC_77])⟩⟩
      refine stepsT_op (by kernel_rfl) ?_ ?_
      · intro X w1 k1 hG hdep
        have e77 : weC (.agg #[.slice A n c, .slice B k d, .int .i64 til]) (.agg #[.slice Ac nc cc, .slice Aw nw cw, .slice Al nl cl]) m til n k nc nw nl W9.heap.size s V 77 (X 77) w1 := hdep 77 (by decide +kernel)
        rw [weC_77] at e77; simp only [opW_def, mixT, e77]; go_simp; refine (CQ.out _ (UC.out.trans hG) SS.out).mono ?_; rintro x w2 ⟨g1, g2, g3, rfl, v, _, u⟩
        exact ⟨⟨_, by first | rfl | simp [Act.put], u, hG.trans u, (show weC (.agg #[.slice A n c, .slice B k d, .int .i64 til]) (.agg #[.slice Ac nc cc, .slice Aw nw cw, .slice Al nl cl]) m til n k nc nw nl W9.heap.size s V 78 _ _ from by first | (rw [weC_78]; exact ⟨_, _, _, rfl, v⟩) | rw [weC_78])⟩⟩
      refine stepsT_op (by kernel_rfl) ?_ ?_
      · intro X w1 k1 hG hdep
        have e76 : weC (.agg #[.slice A n c, .slice B k d, .int .i64 til]) (.agg #[.slice Ac nc cc, .slice Aw nw cw, .slice Al nl cl]) m til n k nc nw nl W9.heap.size s V 76 (X 76) w1 := hdep 76 (by decide +kernel)
        rw [weC_76] at e76; obtain ⟨A1, B1, e76, mv⟩ := e76
        have e78 : weC (.agg #[.slice A n c, .slice B k d, .int .i64 til]) (.agg #[.slice Ac nc cc, .slice Aw nw cw, .slice Al nl cl]) m til n k nc nw nl W9.heap.size s V 78 (X 78) w1 := hdep 78 (by decide +kernel)
        rw [weC_78] at e78; obtain ⟨g1, g2, g3, e78, sv⟩ := e78; simp only [opW_def, mixT, e76, e78]; go_simp; refine (CI.out _ _ _ _ _ w1 mv SS.out sv).mono ?_; rintro x w2 ⟨v, rfl, ho, u⟩
        exact ⟨⟨_, by first | rfl | simp [Act.put], u, hG.trans u, (show weC (.agg #[.slice A n c, .slice B k d, .int .i64 til]) (.agg #[.slice Ac nc cc, .slice Aw nw cw, .slice Al nl cl]) m til n k nc nw nl W9.heap.size s V 79 _ _ from by first | (rw [weC_79]; exact own_mono ho hG.size) | rw [weC_79])⟩⟩
      exact trivial
    · intro h p _ hp
      cases hp
    · intro X w1 hG hR
      have e79 : weC (.agg #[.slice A n c, .slice B k d, .int .i64 til]) (.agg #[.slice Ac nc cc, .slice Aw nw cw, .slice Al nl cl]) m til n k nc nw nl W9.heap.size s V 79 (X 79) w1 := hR 4 (by omega)
      rw [weC_79] at e79; unfold IsLw at e79; obtain ⟨_, H6, H6c, hv_, _, _⟩ := own_slice e79; simp only [mixT]; rw [hv_]
      have ho := e79
      rw [hv_] at ho
      have OL := Lib.hid ho
      have UX := Lib.hid hG
      clear hR hG hv_ e79 ho; refine mix_go rfl (by rfl) (fun K hK => ?_); go_simp; refine hK _ _ ?_; clear hK K; refine mix_nil ?_
      have UC := Lib.hid (UC.out.trans UX.out)
      have U3 := Lib.hid (U3.out.trans UX.out)
      have HE := Lib.hid (HE.out.up UX.out)
      have HV := Lib.hid (own_evs OL.out)
      clear UX OL B0 B1
      go_wp2_with fail
      refine (CR.out _ _ _ _ _ HV.out (SV.out.up U3.out) FW9.out).mono ?_; rintro x wB ⟨rfl, u⟩
      have HE := Lib.hid (HE.out.up u)
      have UC := Lib.hid (UC.out.trans u)
      clear u U3
      go_wp2_with fail
      refine (held_any G9 V.length c9 _ (by have := FW.out; omega) HE.out).mono ?_; rintro x wC ⟨rfl, u⟩
      have UC := Lib.hid (UC.out.trans u)
      clear u; go_wp2; go_ret
      exact ⟨rfl, UC.out⟩
end Go.Proofs.Ytklldniapombiaa

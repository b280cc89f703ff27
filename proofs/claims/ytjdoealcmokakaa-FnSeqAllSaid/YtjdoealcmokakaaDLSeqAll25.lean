/-
  What SeqNew gives, in one sentence: as many component states of zeros as there are components, the external events, nothing processed; for every model that lies in memory.
-/
import Derived.Test.YtjdoealcmokakaaDLSeqAll05
import Derived.Test.YtjdoealcmokakaaDLSeqAll17
import Derived.Test.YtjdoealcmokakaaDLSeqAll21
import Derived.Test.YtjdoealcmokakaaDLSeqAll23
import Derived.Test.YtjdoealcmokakaaDLSeqAll24
namespace Go.Proofs.Ytjdoealcmokakaa
set_option maxRecDepth 100000
open Go.RowKit
theorem info46 : (Try.prog.info? 46).map (fun i => (i.zero, i.size, i.bytes)) = some (some (.agg #[.int .i64 0, .int .i64 0, .int .i64 0]), 3, 24) := by kernel_rfl
/-- A new slice of k component states of zeros (nil, where k is 0, may stand for it). -/
def ZeroC (lo k : Nat) (v : Value) (w : World) : Prop :=
  (k = 0 ∧ v = .slice none 0 0) ∨ ∃ g, v = .slice (some ⟨g, 0, none⟩) k k ∧ lo ≤ g ∧ w.heap[g]? = some (.cells (madeCells #[.int .i64 0, .int .i64 0, .int .i64 0] (k * 3)) 46)
theorem ZeroC.lower {lo lo' k : Nat} {v : Value} {w : World} (h : ZeroC lo k v w) (hl : lo' ≤ lo) : ZeroC lo' k v w := by
  rcases h with h | ⟨g, h1, h2, h3⟩
  · exact .inl h
  · exact .inr ⟨g, h1, by omega, h3⟩
def ZeroS (lo k : Nat) (v : Value) (w : World) : Prop :=
  ∃ g, v = .slice (some ⟨g, 0, none⟩) k k ∧ lo ≤ g ∧ w.heap[g]? = some (.cells (madeCells #[.int .i64 0, .int .i64 0, .int .i64 0] (k * 3)) 46)
theorem ZeroS.up {lo k : Nat} {v : Value} {w w' : World} (h : ZeroS lo k v w) (u : Up w w') : ZeroS lo k v w' := by
  obtain ⟨g, h1, h2, h3⟩ := h
  exact ⟨g, h1, h2, (u.below.block g (Array.getElem?_eq_some_iff.1 h3).1).trans h3⟩
theorem ZeroS.lower {lo lo' k : Nat} {v : Value} {w : World} (h : ZeroS lo k v w) (hl : lo' ≤ lo) : ZeroS lo' k v w := by
  obtain ⟨g, h1, h2, h3⟩ := h
  exact ⟨g, h1, by omega, h3⟩
theorem ZeroS.mv {lo k g : Nat} {v : Value} {w w' : World} (h : ZeroS lo k v w) (m : Mv g w w') (hne : ∀ b, v = .slice (some ⟨b, 0, none⟩) k k → b ≠ g) : ZeroS lo k v w' := by
  obtain ⟨b, h1, h2, h3⟩ := h
  exact ⟨b, h1, h2, (m.block b (Array.getElem?_eq_some_iff.1 h3).1 (hne b h1)).trans h3⟩
/-- An empty literal. -/
def IsLit (lo : Nat) (v : Value) (w : World) : Prop := ∃ g, v = .slice (some ⟨g, 0, none⟩) 0 0 ∧ w.ownsRow lo 39 6 (.slice (some ⟨g, 0, none⟩) 0 0) 0 []
theorem IsLit.up {lo : Nat} {v : Value} {w w' : World} (h : IsLit lo v w) (u : Up w w') : IsLit lo v w' := by
  obtain ⟨g, h1, h2⟩ := h
  exact ⟨g, h1, own_up h2 u⟩
theorem IsLit.new {lo : Nat} (w : World) (h : lo ≤ w.heap.size) : IsLit lo (.slice (some ⟨w.heap.size, 0, none⟩) 0 0) (w.alloc (.cells #[] 39)) :=
  ⟨w.heap.size, rfl, by simpa using World.ownsRow_lit (base := lo) (e := 39) (size := 6) w #[] 0 h (by simp only [maxLen]; omega) (by simp)⟩
/-- A slice of one slice. -/
def IsPart (lo : Nat) (V v : Value) (w : World) : Prop := ∃ g, v = .slice (some ⟨g, 0, none⟩) 1 1 ∧ lo ≤ g ∧ g < w.heap.size ∧ w.cell? ⟨g, 0, none⟩ = some V
theorem IsPart.up {lo : Nat} {V v : Value} {w w' : World} (h : IsPart lo V v w) (u : Up w w') : IsPart lo V v w' := by
  obtain ⟨g, h1, h2, h3, h4⟩ := h
  exact ⟨g, h1, h2, Nat.lt_of_lt_of_le h3 u.size, (u.cells _ _ h3).trans h4⟩
theorem IsPart.new {lo : Nat} {V : Value} {t : TypeId} (w : World) (h : lo ≤ w.heap.size) : IsPart lo V (.slice (some ⟨w.heap.size, 0, none⟩) 1 1) (w.alloc (.cells #[V] t)) :=
  ⟨w.heap.size, rfl, h, by simp, by rw [cell_of_row _ _ 0 _ _ _ (heap_alloc_new w (.cells #[V] t))]; rfl⟩
theorem isOwnL_of {lo k : Nat} {v : Value} {w : World} {es : List Evt} (h : w.ownsRow lo 39 6 v k (flat es)) (hk : es.length = k) : IsOwnL lo es v w := by
  subst hk
  exact h
theorem mdlB_starts {m : Mdl} (hm : mdlB m = true) : m.starts.length ≤ 6 := by
  simp only [mdlB, startsB, Bool.and_eq_true, decide_eq_true_eq] at hm
  omega
/-- What SeqNew gives. -/
def SqRes (lo : Nat) (m : Mdl) (v : Value) (w : World) : Prop :=
  ∃ vc vw, v = .agg #[vc, vw, .slice none 0 0] ∧ ZeroC lo (if mdlB m = true then m.rules.length else 0) vc w ∧ IsOwnL lo (if mdlB m = true then m.starts else []) vw w
def snA (lo b1 : Nat) (VR VS : Value) (n : Nat) (es : List Evt) (d : Nat) (v : Value) (w : World) : Prop :=
  if d = 7 then v = .pointer (some ⟨b1, 0, none⟩) else if d = 8 then v = VR else if d = 9 then v = .int .i64 n else if d = 10 then ZeroS lo n v w else if d = 11 then IsLit lo v w else if d = 12 then v = .pointer (some ⟨b1, 1, none⟩) else if d = 13 then v = VS else if d = 14 then IsOwnL lo es v w else if d = 15 then ∃ gz Aw cw, v = .agg #[.slice (some ⟨gz, 0, none⟩) n n, .slice Aw es.length cw, .slice none 0 0] ∧ ZeroS lo n (.slice (some ⟨gz, 0, none⟩) n n) w ∧ IsOwnL lo es (.slice Aw es.length cw) w else True
theorem snA_7 (lo b1 : Nat) (VR VS : Value) (n : Nat) (es : List Evt) (v : Value) (w : World) : snA lo b1 VR VS n es 7 v w = (v = .pointer (some ⟨b1, 0, none⟩)) := by simp [snA]
theorem snA_8 (lo b1 : Nat) (VR VS : Value) (n : Nat) (es : List Evt) (v : Value) (w : World) : snA lo b1 VR VS n es 8 v w = (v = VR) := by simp [snA]
theorem snA_9 (lo b1 : Nat) (VR VS : Value) (n : Nat) (es : List Evt) (v : Value) (w : World) : snA lo b1 VR VS n es 9 v w = (v = .int .i64 n) := by simp [snA]
theorem snA_10 (lo b1 : Nat) (VR VS : Value) (n : Nat) (es : List Evt) (v : Value) (w : World) : snA lo b1 VR VS n es 10 v w = (ZeroS lo n v w) := by simp [snA]
theorem snA_11 (lo b1 : Nat) (VR VS : Value) (n : Nat) (es : List Evt) (v : Value) (w : World) : snA lo b1 VR VS n es 11 v w = (IsLit lo v w) := by simp [snA]
theorem snA_12 (lo b1 : Nat) (VR VS : Value) (n : Nat) (es : List Evt) (v : Value) (w : World) : snA lo b1 VR VS n es 12 v w = (v = .pointer (some ⟨b1, 1, none⟩)) := by simp [snA]
theorem snA_13 (lo b1 : Nat) (VR VS : Value) (n : Nat) (es : List Evt) (v : Value) (w : World) : snA lo b1 VR VS n es 13 v w = (v = VS) := by simp [snA]
theorem snA_14 (lo b1 : Nat) (VR VS : Value) (n : Nat) (es : List Evt) (v : Value) (w : World) : snA lo b1 VR VS n es 14 v w = (IsOwnL lo es v w) := by simp [snA]
theorem snA_15 (lo b1 : Nat) (VR VS : Value) (n : Nat) (es : List Evt) (v : Value) (w : World) : snA lo b1 VR VS n es 15 v w = (∃ gz Aw cw, v = .agg #[.slice (some ⟨gz, 0, none⟩) n n, .slice Aw es.length cw, .slice none 0 0] ∧ ZeroS lo n (.slice (some ⟨gz, 0, none⟩) n n) w ∧ IsOwnL lo es (.slice Aw es.length cw) w) := by simp [snA]
theorem snA_up (lo b1 : Nat) (VR VS : Value) (n : Nat) (es : List Evt) (d : Nat) {v : Value} {w w' : World} (h : snA lo b1 VR VS n es d v w) (u : Up w w') : snA lo b1 VR VS n es d v w' := by
  unfold snA at h ⊢
  by_cases h7 : d = 7
  · rw [if_pos h7] at h ⊢
    exact h
  rw [if_neg h7] at h ⊢
  by_cases h8 : d = 8
  · rw [if_pos h8] at h ⊢
    exact h
  rw [if_neg h8] at h ⊢
  by_cases h9 : d = 9
  · rw [if_pos h9] at h ⊢
    exact h
  rw [if_neg h9] at h ⊢
  by_cases h10 : d = 10
  · rw [if_pos h10] at h ⊢
    exact h.up u
  rw [if_neg h10] at h ⊢
  by_cases h11 : d = 11
  · rw [if_pos h11] at h ⊢
    exact h.up u
  rw [if_neg h11] at h ⊢
  by_cases h12 : d = 12
  · rw [if_pos h12] at h ⊢
    exact h
  rw [if_neg h12] at h ⊢
  by_cases h13 : d = 13
  · rw [if_pos h13] at h ⊢
    exact h
  rw [if_neg h13] at h ⊢
  by_cases h14 : d = 14
  · rw [if_pos h14] at h ⊢
    exact h.up u
  rw [if_neg h14] at h ⊢
  by_cases h15 : d = 15
  · rw [if_pos h15] at h ⊢
    exact (by obtain ⟨gz, Aw, cw, h0, h1, h2⟩ := h; exact ⟨gz, Aw, cw, h0, h1.up u, h2.up u⟩)
  rw [if_neg h15] at h ⊢
  exact trivial
def snB (lo b1 : Nat) (VR VS : Value) (n : Nat) (es : List Evt) (d : Nat) (v : Value) (w : World) : Prop :=
  if d = 7 then v = .pointer (some ⟨b1, 0, none⟩) else if d = 8 then v = VR else if d = 9 then v = .int .i64 n else if d = 10 then ZeroS lo n v w else if d = 11 then v = .pointer (some ⟨b1, 1, none⟩) else if d = 12 then v = VS else if d = 13 then IsPart lo VS v w else if d = 14 then IsOwnL lo es v w else if d = 15 then ∃ gz Aw cw, v = .agg #[.slice (some ⟨gz, 0, none⟩) n n, .slice Aw es.length cw, .slice none 0 0] ∧ ZeroS lo n (.slice (some ⟨gz, 0, none⟩) n n) w ∧ IsOwnL lo es (.slice Aw es.length cw) w else True
theorem snB_7 (lo b1 : Nat) (VR VS : Value) (n : Nat) (es : List Evt) (v : Value) (w : World) : snB lo b1 VR VS n es 7 v w = (v = .pointer (some ⟨b1, 0, none⟩)) := by simp [snB]
theorem snB_8 (lo b1 : Nat) (VR VS : Value) (n : Nat) (es : List Evt) (v : Value) (w : World) : snB lo b1 VR VS n es 8 v w = (v = VR) := by simp [snB]
theorem snB_9 (lo b1 : Nat) (VR VS : Value) (n : Nat) (es : List Evt) (v : Value) (w : World) : snB lo b1 VR VS n es 9 v w = (v = .int .i64 n) := by simp [snB]
theorem snB_10 (lo b1 : Nat) (VR VS : Value) (n : Nat) (es : List Evt) (v : Value) (w : World) : snB lo b1 VR VS n es 10 v w = (ZeroS lo n v w) := by simp [snB]
theorem snB_11 (lo b1 : Nat) (VR VS : Value) (n : Nat) (es : List Evt) (v : Value) (w : World) : snB lo b1 VR VS n es 11 v w = (v = .pointer (some ⟨b1, 1, none⟩)) := by simp [snB]
theorem snB_12 (lo b1 : Nat) (VR VS : Value) (n : Nat) (es : List Evt) (v : Value) (w : World) : snB lo b1 VR VS n es 12 v w = (v = VS) := by simp [snB]
theorem snB_13 (lo b1 : Nat) (VR VS : Value) (n : Nat) (es : List Evt) (v : Value) (w : World) : snB lo b1 VR VS n es 13 v w = (IsPart lo VS v w) := by simp [snB]
theorem snB_14 (lo b1 : Nat) (VR VS : Value) (n : Nat) (es : List Evt) (v : Value) (w : World) : snB lo b1 VR VS n es 14 v w = (IsOwnL lo es v w) := by simp [snB]
theorem snB_15 (lo b1 : Nat) (VR VS : Value) (n : Nat) (es : List Evt) (v : Value) (w : World) : snB lo b1 VR VS n es 15 v w = (∃ gz Aw cw, v = .agg #[.slice (some ⟨gz, 0, none⟩) n n, .slice Aw es.length cw, .slice none 0 0] ∧ ZeroS lo n (.slice (some ⟨gz, 0, none⟩) n n) w ∧ IsOwnL lo es (.slice Aw es.length cw) w) := by simp [snB]
theorem snB_up (lo b1 : Nat) (VR VS : Value) (n : Nat) (es : List Evt) (d : Nat) {v : Value} {w w' : World} (h : snB lo b1 VR VS n es d v w) (u : Up w w') : snB lo b1 VR VS n es d v w' := by
  unfold snB at h ⊢
  by_cases h7 : d = 7
  · rw [if_pos h7] at h ⊢
    exact h
  rw [if_neg h7] at h ⊢
  by_cases h8 : d = 8
  · rw [if_pos h8] at h ⊢
    exact h
  rw [if_neg h8] at h ⊢
  by_cases h9 : d = 9
  · rw [if_pos h9] at h ⊢
    exact h
  rw [if_neg h9] at h ⊢
  by_cases h10 : d = 10
  · rw [if_pos h10] at h ⊢
    exact h.up u
  rw [if_neg h10] at h ⊢
  by_cases h11 : d = 11
  · rw [if_pos h11] at h ⊢
    exact h
  rw [if_neg h11] at h ⊢
  by_cases h12 : d = 12
  · rw [if_pos h12] at h ⊢
    exact h
  rw [if_neg h12] at h ⊢
  by_cases h13 : d = 13
  · rw [if_pos h13] at h ⊢
    exact h.up u
  rw [if_neg h13] at h ⊢
  by_cases h14 : d = 14
  · rw [if_pos h14] at h ⊢
    exact h.up u
  rw [if_neg h14] at h ⊢
  by_cases h15 : d = 15
  · rw [if_pos h15] at h ⊢
    exact (by obtain ⟨gz, Aw, cw, h0, h1, h2⟩ := h; exact ⟨gz, Aw, cw, h0, h1.up u, h2.up u⟩)
  rw [if_neg h15] at h ⊢
  exact trivial
set_option maxHeartbeats 600000 in
theorem specSeqNew_any (A : Option Addr) (n c : Nat) (B : Option Addr) (k d : Nat) (m : Mdl) (w : World) (hM : MdlV w A n B k m) :
    Calls Try.prog 47 #[.agg #[.slice A n c, .slice B k d, .int .i64 m.til]] w fun x w' => ∃ v, x = .returned v ∧ SqRes w.heap.size m v w' ∧ Up w w' := by
  obtain ⟨i0, hi0, hz0, hz1, hz2⟩ := info_parts info39
  have INF := Lib.hid (And.intro hi0 (And.intro hz0 (And.intro hz1 hz2)))
  have SIX := Lib.hid (show 0 < 6 by omega)
  obtain ⟨i1, hi, hy0, hy1, hy2⟩ := info_parts info46
  have HMK := Lib.hid (fun (q : Nat) (hq : q ≤ 4) W => run_make_rowN (P := Try.prog) 34 46 i1 _ Try.underlying34 hi hy0 .i64 .i64 q q (Nat.le_refl _) (by rw [hy2]; omega) (by omega) W)
  rw [hy1] at HMK; clear hi0 hz0 hz1 hz2 hi hy0 hy1 hy2
  have HM := Lib.hid hM
  have LR := Lib.hid hM.rules.1
  have U0 := Lib.hid (((Up.refl w).alloc (.cells #[.slice A n c, .slice B k d, .int .i64 m.til] 26)).alloc (.cells #[.slice none 0 0, .slice none 0 0, .slice none 0 0] 36))
  have BX := Lib.hid ((Box3.new w (.slice A n c) (.slice B k d) (.int .i64 m.til) 26).up ((Up.refl _).alloc (.cells #[.slice none 0 0, .slice none 0 0, .slice none 0 0] 36)))
  have X2 := Lib.hid (Box3.new (w.alloc (.cells #[.slice A n c, .slice B k d, .int .i64 m.til] 26)) (.slice none 0 0) (.slice none 0 0) (.slice none 0 0) 36)
  have F2 := Lib.hid (fun j => free_new (w.alloc (.cells #[.slice A n c, .slice B k d, .int .i64 m.til] 26)) #[.slice none 0 0, .slice none 0 0, .slice none 0 0] 36 j)
  simp only [World.size_alloc] at X2 F2
  have CI := Lib.hid (fun W (u : Up w W) => specMdl_any A n c B k d m W (hM.up u))
  generalize hmb : mdlB m = g at CI
  have HB := Lib.hid hmb
  clear hM hmb
  go_enter Try.func47, Try.ntmps47
  go_wp2_with fail
  refine (CI.out _ U0.out).mono ?_; rintro x w1 ⟨rfl, u1⟩
  have U1 := Lib.hid (U0.out.trans u1)
  have BX := Lib.hid (BX.out.up u1)
  have x2 := X2.out.up u1
  have f2 : ∀ j, w1.frozen? ⟨w.heap.size + 1, j, none⟩ = false := fun j => (u1.frozens _ _ (by simp)).trans (F2.out j)
  have X2 := Lib.hid x2
  have F2 := Lib.hid f2
  clear u1 x2 f2
  cases g
  · have K := set3_at (w := w1) (b := w.heap.size + 1) (x := .slice none 0 0) (y := .slice none 0 0) (z := .slice none 0 0) (fun j hj => by
      have h3 : j = 0 ∨ j = 1 ∨ j = 2 := by omega
      rcases h3 with rfl | rfl | rfl
      · exact ⟨_, X2.out.c0⟩
      · exact ⟨_, X2.out.c1⟩
      · exact ⟨_, X2.out.c2⟩)
    have UE := Lib.hid (((U1.out.setCell (p := ⟨w.heap.size + 1, 0, none⟩) (by dsimp only; omega) (.slice none 0 0)).setCell (p := ⟨w.heap.size + 1, 1, none⟩) (by dsimp only; omega) (.slice none 0 0)).setCell (p := ⟨w.heap.size + 1, 2, none⟩) (by dsimp only; omega) (.slice none 0 0))
    obtain ⟨k0, k1, k2⟩ := K; obtain ⟨q0, q1, q2⟩ := And.intro X2.out.c0 (And.intro X2.out.c1 X2.out.c2)
    have qf := F2.out
    go_wp2
    exact bodyPost_ret (v := .agg #[.slice none 0 0, .slice none 0 0, .slice none 0 0]) (by simp [results, Try.results47, go_sem, k0, k1, k2]) rfl ⟨_, rfl, ⟨.slice none 0 0, .slice none 0 0, rfl, by rw [HB.out]; exact .inl ⟨rfl, rfl⟩, by rw [HB.out]; exact World.ownsRow_nil _ _ _ _⟩, UE.out⟩
  · have hsz1 : w.heap.size + 1 < w1.heap.size := X2.out.lt
    have FEW := Lib.hid (mdlB_few HB.out)
    have hn4 : n ≤ 4 := by have := FEW.out; have := LR.out; omega
    have hk6 := mdlB_starts HB.out
    have ES := Lib.hid (HM.out.starts.up U1.out)
    have LS := Lib.hid HM.out.starts.1
    have hk6 : k ≤ 6 := by have := LS.out; omega
    have HMN := Lib.hid (fun W => HMK.out n hn4 W)
    clear HMK
    have HW1 := Lib.hid U1.out.size
    go_wp2_with fail
    generalize hb1 : w.heap.size = b1 at *
    generalize w1 = W0 at *
    refine region_relyT 9 [] [(9, false)] [7, 8, 9, 10, 11, 12, 13, 14, 15] 9 (fun _ w1 => Up W0 w1) Up (fun i v w => snA W0.heap.size b1 (.slice A n c) (.slice B k d) n m.starts i v w) (by kernel_rfl) (by kernel_rfl) (by kernel_rfl) (by kernel_rfl) ((Up.refl _).drew) (fun slot_ _ _ _ h u => snA_up W0.heap.size b1 (.slice A n c) (.slice B k d) n m.starts slot_ h u) ?_ ?_ ?_
    · simp only [List.take_succ_cons, List.take_zero]
      refine stepsT_op (by kernel_rfl) ?_ ?_
      · intro X w1 k1 hG hdep
        simp only [opW_def, mixT]; go_simp
        exact ⟨⟨_, by first | rfl | simp [Act.put], Up.refl _, hG, (show snA W0.heap.size b1 (.slice A n c) (.slice B k d) n m.starts 7 _ _ from by first | (rw [snA_7]; exact rfl) | rw [snA_7])⟩⟩
      refine stepsT_op (by kernel_rfl) ?_ ?_
      · intro X w1 k1 hG hdep
        have e7 : snA W0.heap.size b1 (.slice A n c) (.slice B k d) n m.starts 7 (X 7) w1 := hdep 7 (by decide +kernel)
        rw [snA_7] at e7; obtain ⟨p0, p1, p2⟩ := And.intro (BX.out.up hG).c0 (And.intro (BX.out.up hG).c1 (BX.out.up hG).c2); simp only [opW_def, mixT, e7]; go_simp
        exact ⟨⟨_, by first | rfl | simp [Act.put], Up.refl _, hG, (show snA W0.heap.size b1 (.slice A n c) (.slice B k d) n m.starts 8 _ _ from by first | (rw [snA_8]; exact rfl) | rw [snA_8])⟩⟩
      refine stepsT_op (by kernel_rfl) ?_ ?_
      · intro X w1 k1 hG hdep
        have e8 : snA W0.heap.size b1 (.slice A n c) (.slice B k d) n m.starts 8 (X 8) w1 := hdep 8 (by decide +kernel)
        rw [snA_8] at e8; simp only [opW_def, mixT, e8]; go_simp
        exact ⟨⟨_, by first | rfl | simp [Act.put], Up.refl _, hG, (show snA W0.heap.size b1 (.slice A n c) (.slice B k d) n m.starts 9 _ _ from by first | (rw [snA_9]; exact rfl) | rw [snA_9])⟩⟩
      refine stepsT_op (by kernel_rfl) ?_ ?_
      · intro X w1 k1 hG hdep
        have e9 : snA W0.heap.size b1 (.slice A n c) (.slice B k d) n m.starts 9 (X 9) w1 := hdep 9 (by decide +kernel)
        rw [snA_9] at e9
        have hlo := hG.size
        have hmk := HMN.out w1
        simp only [opW_def, mixT, e9]; go_simp
        exact ⟨⟨_, by first | rfl | simp [Act.put], (Up.refl _).alloc _, hG.alloc _, (show snA W0.heap.size b1 (.slice A n c) (.slice B k d) n m.starts 10 _ _ from by first | (rw [snA_10]; exact ⟨_, rfl, hlo, heap_alloc_new _ _⟩) | rw [snA_10])⟩⟩
      refine stepsT_op (by kernel_rfl) ?_ ?_
      · intro X w1 k1 hG hdep
        have hlo := hG.size
        simp only [opW_def, mixT]; go_simp
        exact ⟨⟨_, by first | rfl | simp [Act.put], (Up.refl _).alloc _, hG.alloc _, (show snA W0.heap.size b1 (.slice A n c) (.slice B k d) n m.starts 11 _ _ from by first | (rw [snA_11]; exact IsLit.new w1 hlo) | rw [snA_11])⟩⟩
      refine stepsT_op (by kernel_rfl) ?_ ?_
      · intro X w1 k1 hG hdep
        simp only [opW_def, mixT]; go_simp
        exact ⟨⟨_, by first | rfl | simp [Act.put], Up.refl _, hG, (show snA W0.heap.size b1 (.slice A n c) (.slice B k d) n m.starts 12 _ _ from by first | (rw [snA_12]; exact rfl) | rw [snA_12])⟩⟩
      refine stepsT_op (by kernel_rfl) ?_ ?_
      · intro X w1 k1 hG hdep
        have e12 : snA W0.heap.size b1 (.slice A n c) (.slice B k d) n m.starts 12 (X 12) w1 := hdep 12 (by decide +kernel)
        rw [snA_12] at e12; obtain ⟨p0, p1, p2⟩ := And.intro (BX.out.up hG).c0 (And.intro (BX.out.up hG).c1 (BX.out.up hG).c2); simp only [opW_def, mixT, e12]; go_simp
        exact ⟨⟨_, by first | rfl | simp [Act.put], Up.refl _, hG, (show snA W0.heap.size b1 (.slice A n c) (.slice B k d) n m.starts 13 _ _ from by first | (rw [snA_13]; exact rfl) | rw [snA_13])⟩⟩
      refine stepsT_op (by kernel_rfl) ?_ ?_
      · intro X w1 k1 hG hdep
        have e11 : snA W0.heap.size b1 (.slice A n c) (.slice B k d) n m.starts 11 (X 11) w1 := hdep 11 (by decide +kernel)
        rw [snA_11] at e11; obtain ⟨g1, e11, o1⟩ := e11
        have e13 : snA W0.heap.size b1 (.slice A n c) (.slice B k d) n m.starts 13 (X 13) w1 := hdep 13 (by decide +kernel)
        rw [snA_13] at e13
        have hlo := hG.size
        have ES1 := ES.out.up hG
        simp only [opW_def, mixT, e11, e13]; refine wp_append_lit (P := Try.prog) w1 (.tmp 11) (.tmp 13) 24 rfl W0.heap.size 39 i0 _ 6 48 Try.underlying24 INF.out.1 INF.out.2.1 INF.out.2.2.1 INF.out.2.2.2 rfl SIX.out g1 (by go_simp) o1 _ B k d (flat m.starts) (by go_simp) ES1.reads (flat_one _) (by simp only [maxLen]; omega) (by omega) hlo ?_; intro v' w' ho u
        exact ⟨⟨v', by first | rfl | simp [Act.put], u, hG.trans u, (show snA W0.heap.size b1 (.slice A n c) (.slice B k d) n m.starts 14 _ _ from by first | (rw [snA_14]; exact isOwnL_of ho LS.out) | rw [snA_14])⟩⟩
      refine stepsT_op (by kernel_rfl) ?_ ?_
      · intro X w1 k1 hG hdep
        have e10 : snA W0.heap.size b1 (.slice A n c) (.slice B k d) n m.starts 10 (X 10) w1 := hdep 10 (by decide +kernel)
        rw [snA_10] at e10; obtain ⟨gz, e10, z1, z2⟩ := e10
        have e14 : snA W0.heap.size b1 (.slice A n c) (.slice B k d) n m.starts 14 (X 14) w1 := hdep 14 (by decide +kernel)
        rw [snA_14] at e14; obtain ⟨_, Aw, cw, e14v, _, _⟩ := own_slice e14; simp only [opW_def, mixT, e10, e14v]; go_simp
        exact ⟨⟨_, by first | rfl | simp [Act.put], Up.refl _, hG, (show snA W0.heap.size b1 (.slice A n c) (.slice B k d) n m.starts 15 _ _ from by first | (rw [snA_15]; exact ⟨gz, Aw, cw, rfl, ⟨gz, rfl, z1, z2⟩, by rw [← e14v]; exact e14⟩) | rw [snA_15])⟩⟩
      exact trivial
    · intro h p _ hp
      cases hp
    · intro X w1 hG hR
      have e15 : snA W0.heap.size b1 (.slice A n c) (.slice B k d) n m.starts 15 (X 15) w1 := hR 8 (by omega)
      rw [snA_15] at e15; obtain ⟨gz, Aw, cw, e15, hvc, hvw⟩ := e15
      have UE0 := Lib.hid (U1.out.trans hG)
      have X2 := Lib.hid (X2.out.up hG)
      have F2 := Lib.hid (fun j => (hG.frozens (b1 + 1) j hsz1).trans (F2.out j))
      have ZC0 := Lib.hid hvc
      have ZW0 := Lib.hid hvw
      have ZC := Lib.hid (ZeroS.lower hvc HW1.out)
      clear hR hG hvc hvw BX ES; simp only [mixT, e15]; obtain ⟨q0, q1, q2⟩ := And.intro X2.out.c0 (And.intro X2.out.c1 X2.out.c2)
      have qf := F2.out
      have ql := X2.out.lt
      refine mix_go rfl (by rfl) (fun K hK => ?_); go_simp; refine hK _ _ ?_; clear hK K; refine mix_nil ?_
      have hbw : ∀ j, w.heap.size ≤ (⟨b1 + 1, j, none⟩ : Addr).block := fun j => by dsimp only; omega
      have UE := Lib.hid (((UE0.out.setCell (hbw 0) (.slice (some ⟨gz, 0, none⟩) n n)).setCell (hbw 1) (.slice Aw m.starts.length cw)).setCell (hbw 2) (.slice none 0 0))
      have K := set3_at (w := w1) (b := b1 + 1) (x := .slice (some ⟨gz, 0, none⟩) n n) (y := .slice Aw m.starts.length cw) (z := .slice none 0 0) (fun j hj => by
        have h3 : j = 0 ∨ j = 1 ∨ j = 2 := by omega
        rcases h3 with rfl | rfl | rfl
        · exact ⟨_, X2.out.c0⟩
        · exact ⟨_, X2.out.c1⟩
        · exact ⟨_, X2.out.c2⟩)
      obtain ⟨k0, k1, k2⟩ := K
      have ne1 : gz ≠ b1 + 1 := by obtain ⟨g', h1, h2, _⟩ := ZC0.out; injection h1 with h1; injection h1 with h1; injection h1 with h1 _ _; omega
      have MK := Lib.hid ((((Mv.refl (b1 + 1) w1).setCell (o := 0) (.slice (some ⟨gz, 0, none⟩) n n)).setCell (o := 1) (.slice Aw m.starts.length cw)).setCell (o := 2) (.slice none 0 0))
      have ZE := Lib.hid (ZC.out.mv MK.out (fun b h => by injection h with h; injection h with h; injection h with h _ _; omega))
      have OE := Lib.hid (own_mv ZW0.out MK.out hsz1)
      have EQ1 : (if mdlB m = true then m.rules.length else 0) = n := by rw [if_pos HB.out, LR.out]
      have EQ2 : (if mdlB m = true then m.starts else []) = m.starts := if_pos HB.out
      have EQ1 := Lib.hid EQ1
      have EQ2 := Lib.hid EQ2
      clear ne1; go_wp2
      exact bodyPost_ret (v := .agg #[.slice (some ⟨gz, 0, none⟩) n n, .slice Aw m.starts.length cw, .slice none 0 0]) (by simp [results, Try.results47, go_sem, k0, k1, k2]) rfl ⟨_, rfl, ⟨_, _, rfl, by rw [EQ1.out]; exact .inr (by obtain ⟨g', h1, h2, h3⟩ := ZE.out; exact ⟨g', h1, h2, h3⟩), by rw [EQ2.out]; exact own_mono OE.out (by omega)⟩, UE.out⟩
set_option maxHeartbeats 600000 in
theorem implSeqNew_any (A : Option Addr) (n c : Nat) (B : Option Addr) (k d : Nat) (m : Mdl) (w : World) (hM : MdlV w A n B k m) :
    Calls Try.prog 30 #[.agg #[.slice A n c, .slice B k d, .int .i64 m.til]] w fun x w' => ∃ v, x = .returned v ∧ SqRes w.heap.size m v w' ∧ Up w w' := by
  obtain ⟨i0, hi0, hz0, hz1, hz2⟩ := info_parts info39
  have INF := Lib.hid (And.intro hi0 (And.intro hz0 (And.intro hz1 hz2)))
  have SIX := Lib.hid (show 0 < 6 by omega)
  obtain ⟨i1, hi, hy0, hy1, hy2⟩ := info_parts info46
  have HMK := Lib.hid (fun (q : Nat) (hq : q ≤ 4) W => run_make_rowN (P := Try.prog) 34 46 i1 _ Try.underlying34 hi hy0 .i64 .i64 q q (Nat.le_refl _) (by rw [hy2]; omega) (by omega) W)
  rw [hy1] at HMK; clear hi0 hz0 hz1 hz2 hi hy0 hy1 hy2
  have HM := Lib.hid hM
  have LR := Lib.hid hM.rules.1
  have U0 := Lib.hid (((Up.refl w).alloc (.cells #[.slice A n c, .slice B k d, .int .i64 m.til] 26)).alloc (.cells #[.slice none 0 0, .slice none 0 0, .slice none 0 0] 36))
  have BX := Lib.hid ((Box3.new w (.slice A n c) (.slice B k d) (.int .i64 m.til) 26).up ((Up.refl _).alloc (.cells #[.slice none 0 0, .slice none 0 0, .slice none 0 0] 36)))
  have X2 := Lib.hid (Box3.new (w.alloc (.cells #[.slice A n c, .slice B k d, .int .i64 m.til] 26)) (.slice none 0 0) (.slice none 0 0) (.slice none 0 0) 36)
  have F2 := Lib.hid (fun j => free_new (w.alloc (.cells #[.slice A n c, .slice B k d, .int .i64 m.til] 26)) #[.slice none 0 0, .slice none 0 0, .slice none 0 0] 36 j)
  simp only [World.size_alloc] at X2 F2
  have CI := Lib.hid (fun W (u : Up w W) => implMdl_any A n c B k d m W (hM.up u))
  generalize hmb : mdlB m = g at CI
  have HB := Lib.hid hmb
  clear hM hmb
  go_enter Try.func30, Try.ntmps30
  go_wp2_with fail
  refine (CI.out _ U0.out).mono ?_; rintro x w1 ⟨rfl, u1⟩
  have U1 := Lib.hid (U0.out.trans u1)
  have BX := Lib.hid (BX.out.up u1)
  have x2 := X2.out.up u1
  have f2 : ∀ j, w1.frozen? ⟨w.heap.size + 1, j, none⟩ = false := fun j => (u1.frozens _ _ (by simp)).trans (F2.out j)
  have X2 := Lib.hid x2
  have F2 := Lib.hid f2
  clear u1 x2 f2
  cases g
  · have K := set3_at (w := w1) (b := w.heap.size + 1) (x := .slice none 0 0) (y := .slice none 0 0) (z := .slice none 0 0) (fun j hj => by
      have h3 : j = 0 ∨ j = 1 ∨ j = 2 := by omega
      rcases h3 with rfl | rfl | rfl
      · exact ⟨_, X2.out.c0⟩
      · exact ⟨_, X2.out.c1⟩
      · exact ⟨_, X2.out.c2⟩)
    have UE := Lib.hid (((U1.out.setCell (p := ⟨w.heap.size + 1, 0, none⟩) (by dsimp only; omega) (.slice none 0 0)).setCell (p := ⟨w.heap.size + 1, 1, none⟩) (by dsimp only; omega) (.slice none 0 0)).setCell (p := ⟨w.heap.size + 1, 2, none⟩) (by dsimp only; omega) (.slice none 0 0))
    obtain ⟨k0, k1, k2⟩ := K; obtain ⟨q0, q1, q2⟩ := And.intro X2.out.c0 (And.intro X2.out.c1 X2.out.c2)
    have qf := F2.out
    go_wp2
    exact bodyPost_ret (v := .agg #[.slice none 0 0, .slice none 0 0, .slice none 0 0]) (by simp [results, Try.results30, go_sem, k0, k1, k2]) rfl ⟨_, rfl, ⟨.slice none 0 0, .slice none 0 0, rfl, by rw [HB.out]; exact .inl ⟨rfl, rfl⟩, by rw [HB.out]; exact World.ownsRow_nil _ _ _ _⟩, UE.out⟩
  · have hsz1 : w.heap.size + 1 < w1.heap.size := X2.out.lt
    have FEW := Lib.hid (mdlB_few HB.out)
    have hn4 : n ≤ 4 := by have := FEW.out; have := LR.out; omega
    have hk6 := mdlB_starts HB.out
    have ES := Lib.hid (HM.out.starts.up U1.out)
    have LS := Lib.hid HM.out.starts.1
    have hk6 : k ≤ 6 := by have := LS.out; omega
    have HMN := Lib.hid (fun W => HMK.out n hn4 W)
    clear HMK
    have HW1 := Lib.hid U1.out.size
    go_wp2_with fail
    generalize hb1 : w.heap.size = b1 at *
    generalize w1 = W0 at *
    refine region_relyT 9 [] [(9, false)] [7, 8, 9, 10, 11, 12, 13, 14, 15] 9 (fun _ w1 => Up W0 w1) Up (fun i v w => snB W0.heap.size b1 (.slice A n c) (.slice B k d) n m.starts i v w) (by kernel_rfl) (by kernel_rfl) (by kernel_rfl) (by kernel_rfl) ((Up.refl _).drew) (fun slot_ _ _ _ h u => snB_up W0.heap.size b1 (.slice A n c) (.slice B k d) n m.starts slot_ h u) ?_ ?_ ?_
    · simp only [List.take_succ_cons, List.take_zero]
      refine stepsT_op (by kernel_rfl) ?_ ?_
      · intro X w1 k1 hG hdep
        simp only [opW_def, mixT]; go_simp
        exact ⟨⟨_, by first | rfl | simp [Act.put], Up.refl _, hG, (show snB W0.heap.size b1 (.slice A n c) (.slice B k d) n m.starts 7 _ _ from by first | (rw [snB_7]; exact rfl) | rw [snB_7])⟩⟩
      refine stepsT_op (by kernel_rfl) ?_ ?_
      · intro X w1 k1 hG hdep
        have e7 : snB W0.heap.size b1 (.slice A n c) (.slice B k d) n m.starts 7 (X 7) w1 := hdep 7 (by decide +kernel)
        rw [snB_7] at e7; obtain ⟨p0, p1, p2⟩ := And.intro (BX.out.up hG).c0 (And.intro (BX.out.up hG).c1 (BX.out.up hG).c2); simp only [opW_def, mixT, e7]; go_simp
        exact ⟨⟨_, by first | rfl | simp [Act.put], Up.refl _, hG, (show snB W0.heap.size b1 (.slice A n c) (.slice B k d) n m.starts 8 _ _ from by first | (rw [snB_8]; exact rfl) | rw [snB_8])⟩⟩
      refine stepsT_op (by kernel_rfl) ?_ ?_
      · intro X w1 k1 hG hdep
        have e8 : snB W0.heap.size b1 (.slice A n c) (.slice B k d) n m.starts 8 (X 8) w1 := hdep 8 (by decide +kernel)
        rw [snB_8] at e8; simp only [opW_def, mixT, e8]; go_simp
        exact ⟨⟨_, by first | rfl | simp [Act.put], Up.refl _, hG, (show snB W0.heap.size b1 (.slice A n c) (.slice B k d) n m.starts 9 _ _ from by first | (rw [snB_9]; exact rfl) | rw [snB_9])⟩⟩
      refine stepsT_op (by kernel_rfl) ?_ ?_
      · intro X w1 k1 hG hdep
        have e9 : snB W0.heap.size b1 (.slice A n c) (.slice B k d) n m.starts 9 (X 9) w1 := hdep 9 (by decide +kernel)
        rw [snB_9] at e9
        have hlo := hG.size
        have hmk := HMN.out w1
        simp only [opW_def, mixT, e9]; go_simp
        exact ⟨⟨_, by first | rfl | simp [Act.put], (Up.refl _).alloc _, hG.alloc _, (show snB W0.heap.size b1 (.slice A n c) (.slice B k d) n m.starts 10 _ _ from by first | (rw [snB_10]; exact ⟨_, rfl, hlo, heap_alloc_new _ _⟩) | rw [snB_10])⟩⟩
      refine stepsT_op (by kernel_rfl) ?_ ?_
      · intro X w1 k1 hG hdep
        simp only [opW_def, mixT]; go_simp
        exact ⟨⟨_, by first | rfl | simp [Act.put], Up.refl _, hG, (show snB W0.heap.size b1 (.slice A n c) (.slice B k d) n m.starts 11 _ _ from by first | (rw [snB_11]; exact rfl) | rw [snB_11])⟩⟩
      refine stepsT_op (by kernel_rfl) ?_ ?_
      · intro X w1 k1 hG hdep
        have e11 : snB W0.heap.size b1 (.slice A n c) (.slice B k d) n m.starts 11 (X 11) w1 := hdep 11 (by decide +kernel)
        rw [snB_11] at e11; obtain ⟨p0, p1, p2⟩ := And.intro (BX.out.up hG).c0 (And.intro (BX.out.up hG).c1 (BX.out.up hG).c2); simp only [opW_def, mixT, e11]; go_simp
        exact ⟨⟨_, by first | rfl | simp [Act.put], Up.refl _, hG, (show snB W0.heap.size b1 (.slice A n c) (.slice B k d) n m.starts 12 _ _ from by first | (rw [snB_12]; exact rfl) | rw [snB_12])⟩⟩
      refine stepsT_op (by kernel_rfl) ?_ ?_
      · intro X w1 k1 hG hdep
        have e12 : snB W0.heap.size b1 (.slice A n c) (.slice B k d) n m.starts 12 (X 12) w1 := hdep 12 (by decide +kernel)
        rw [snB_12] at e12
        have hlo := hG.size
        simp only [opW_def, mixT, e12]; go_simp
        exact ⟨⟨_, by first | rfl | simp [Act.put], (Up.refl _).alloc _, hG.alloc _, (show snB W0.heap.size b1 (.slice A n c) (.slice B k d) n m.starts 13 _ _ from by first | (rw [snB_13]; exact IsPart.new w1 hlo) | rw [snB_13])⟩⟩
      refine stepsT_op (by kernel_rfl) ?_ ?_
      · intro X w1 k1 hG hdep
        have e13 : snB W0.heap.size b1 (.slice A n c) (.slice B k d) n m.starts 13 (X 13) w1 := hdep 13 (by decide +kernel)
        rw [snB_13] at e13; obtain ⟨g1, e13, l1, t1, c1⟩ := e13
        have hlo := hG.size
        have CC := concat_any g1 1 [m.starts] w1 (by simp) t1 (fun j hj => by
          obtain rfl : j = 0 := by simpa using hj
          exact ⟨B, d, by simpa [LS.out] using c1, by simpa [LS.out] using ES.out.up hG⟩) (by simp; have := LS.out; omega)
        unfold NewSl at CC; simp only [List.flatten_cons, List.flatten_nil, List.append_nil, List.length_cons, List.length_nil, Nat.zero_add] at CC; simp only [opW_def, mixT, e13]; go_simp; refine (CC).mono ?_; rintro x w2 ⟨Az, cz, rfl, y1, y2, y3, y4, u⟩
        exact ⟨⟨_, by first | rfl | simp [Act.put], u, hG.trans u, (show snB W0.heap.size b1 (.slice A n c) (.slice B k d) n m.starts 14 _ _ from by first | (rw [snB_14]; exact own_mono y4 (Nat.le_trans hlo (Nat.le_refl _))) | rw [snB_14])⟩⟩
      refine stepsT_op (by kernel_rfl) ?_ ?_
      · intro X w1 k1 hG hdep
        have e10 : snB W0.heap.size b1 (.slice A n c) (.slice B k d) n m.starts 10 (X 10) w1 := hdep 10 (by decide +kernel)
        rw [snB_10] at e10; obtain ⟨gz, e10, z1, z2⟩ := e10
        have e14 : snB W0.heap.size b1 (.slice A n c) (.slice B k d) n m.starts 14 (X 14) w1 := hdep 14 (by decide +kernel)
        rw [snB_14] at e14; obtain ⟨_, Aw, cw, e14v, _, _⟩ := own_slice e14; simp only [opW_def, mixT, e10, e14v]; go_simp
        exact ⟨⟨_, by first | rfl | simp [Act.put], Up.refl _, hG, (show snB W0.heap.size b1 (.slice A n c) (.slice B k d) n m.starts 15 _ _ from by first | (rw [snB_15]; exact ⟨gz, Aw, cw, rfl, ⟨gz, rfl, z1, z2⟩, by rw [← e14v]; exact e14⟩) | rw [snB_15])⟩⟩
      exact trivial
    · intro h p _ hp
      cases hp
    · intro X w1 hG hR
      have e15 : snB W0.heap.size b1 (.slice A n c) (.slice B k d) n m.starts 15 (X 15) w1 := hR 8 (by omega)
      rw [snB_15] at e15; obtain ⟨gz, Aw, cw, e15, hvc, hvw⟩ := e15
      have UE0 := Lib.hid (U1.out.trans hG)
      have X2 := Lib.hid (X2.out.up hG)
      have F2 := Lib.hid (fun j => (hG.frozens (b1 + 1) j hsz1).trans (F2.out j))
      have ZC0 := Lib.hid hvc
      have ZW0 := Lib.hid hvw
      have ZC := Lib.hid (ZeroS.lower hvc HW1.out)
      clear hR hG hvc hvw BX ES; simp only [mixT, e15]; obtain ⟨q0, q1, q2⟩ := And.intro X2.out.c0 (And.intro X2.out.c1 X2.out.c2)
      have qf := F2.out
      have ql := X2.out.lt
      refine mix_go rfl (by rfl) (fun K hK => ?_); go_simp; refine hK _ _ ?_; clear hK K; refine mix_nil ?_
      have hbw : ∀ j, w.heap.size ≤ (⟨b1 + 1, j, none⟩ : Addr).block := fun j => by dsimp only; omega
      have UE := Lib.hid (((UE0.out.setCell (hbw 0) (.slice (some ⟨gz, 0, none⟩) n n)).setCell (hbw 1) (.slice Aw m.starts.length cw)).setCell (hbw 2) (.slice none 0 0))
      have K := set3_at (w := w1) (b := b1 + 1) (x := .slice (some ⟨gz, 0, none⟩) n n) (y := .slice Aw m.starts.length cw) (z := .slice none 0 0) (fun j hj => by
        have h3 : j = 0 ∨ j = 1 ∨ j = 2 := by omega
        rcases h3 with rfl | rfl | rfl
        · exact ⟨_, X2.out.c0⟩
        · exact ⟨_, X2.out.c1⟩
        · exact ⟨_, X2.out.c2⟩)
      obtain ⟨k0, k1, k2⟩ := K
      have ne1 : gz ≠ b1 + 1 := by obtain ⟨g', h1, h2, _⟩ := ZC0.out; injection h1 with h1; injection h1 with h1; injection h1 with h1 _ _; omega
      have MK := Lib.hid ((((Mv.refl (b1 + 1) w1).setCell (o := 0) (.slice (some ⟨gz, 0, none⟩) n n)).setCell (o := 1) (.slice Aw m.starts.length cw)).setCell (o := 2) (.slice none 0 0))
      have ZE := Lib.hid (ZC.out.mv MK.out (fun b h => by injection h with h; injection h with h; injection h with h _ _; omega))
      have OE := Lib.hid (own_mv ZW0.out MK.out hsz1)
      have EQ1 : (if mdlB m = true then m.rules.length else 0) = n := by rw [if_pos HB.out, LR.out]
      have EQ2 : (if mdlB m = true then m.starts else []) = m.starts := if_pos HB.out
      have EQ1 := Lib.hid EQ1
      have EQ2 := Lib.hid EQ2
      clear ne1; go_wp2
      exact bodyPost_ret (v := .agg #[.slice (some ⟨gz, 0, none⟩) n n, .slice Aw m.starts.length cw, .slice none 0 0]) (by simp [results, Try.results30, go_sem, k0, k1, k2]) rfl ⟨_, rfl, ⟨_, _, rfl, by rw [EQ1.out]; exact .inr (by obtain ⟨g', h1, h2, h3⟩ := ZE.out; exact ⟨g', h1, h2, h3⟩), by rw [EQ2.out]; exact own_mono OE.out (by omega)⟩, UE.out⟩
end Go.Proofs.Ytjdoealcmokakaa

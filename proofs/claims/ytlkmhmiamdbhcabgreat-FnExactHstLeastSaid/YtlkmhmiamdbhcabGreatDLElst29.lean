/-
  What machine.host returns, in one sentence: a host at work that holds what the host holds, in memory of its own; for every host that lies in memory.
-/
import Derived.Test.YtlkmhmiamdbhcabGreatDLElst03
import Derived.Test.YtlkmhmiamdbhcabGreatDLElst10
import Derived.Test.YtlkmhmiamdbhcabGreatDLElst28
namespace Go.Proofs.YtlkmhmiamdbhcabGreat
set_option maxRecDepth 100000
open Go.RowKit
def hwA (lo mb : Nat) (many til comp c0 c1 c2 ids : Int) (b5 : Nat) (Aw : Option Addr) (nw cw : Nat) (ws : List Rec) (Ak : Option Addr) (nk ck : Nat) (ks : List Kep) (d : Nat) (v : Value) (w : World) : Prop :=
  if d = 12 then v = .agg #[.map (some mb), .int .i64 many, .int .i64 til] else if d = 13 then v = .int .i64 comp else if d = 14 then v = .pointer (some ⟨b5, 0, none⟩) else if d = 15 then v = .agg #[.int .i64 c0, .int .i64 c1, .int .i64 c2] else if d = 16 then v = .pointer (some ⟨b5, 3, none⟩) else if d = 17 then v = .int .i64 ids else if d = 18 then v = .pointer (some ⟨b5, 5, none⟩) else if d = 19 then v = .slice Aw nw cw else if d = 20 then ∃ q, v = .slice (some ⟨q, 0, none⟩) 1 1 ∧ Blk w q 43 #[.slice Aw nw cw] else if d = 21 then ∃ Aq cq, v = .slice Aq nw cq ∧ w.ownsRow lo 109 7 (.slice Aq nw cq) nw (flat7 ws) else if d = 22 then ∃ bm, v = .map (some bm) ∧ lo ≤ bm ∧ ISet w bm 0 [] else if d = 23 then v = .pointer (some ⟨b5, 7, none⟩) else if d = 24 then v = .slice Ak nk ck else if d = 25 then ∃ q, v = .slice (some ⟨q, 0, none⟩) 1 1 ∧ Blk w q 44 #[.slice Ak nk ck] else if d = 26 then ∃ Ar cr, v = .slice Ar nk cr ∧ w.ownsRow lo 111 13 (.slice Ar nk cr) nk (flat13 ks) else if d = 27 then ∃ Aq cq bm Ar cr, v = .agg #[.map (some mb), .int .i64 many, .int .i64 til, .int .i64 comp, .int .i64 c0, .int .i64 c1, .int .i64 c2, .int .i64 ids, (.slice none 0 0), .int .i64 0, (.slice Aq nw cq), .map (some bm), (.slice Ar nk cr)] ∧ w.ownsRow lo 109 7 (.slice Aq nw cq) nw (flat7 ws) ∧ lo ≤ bm ∧ ISet w bm 0 [] ∧ w.ownsRow lo 111 13 (.slice Ar nk cr) nk (flat13 ks) else if d = 28 then ∃ g Aq cq bm Ar cr, v = .pointer (some ⟨g, 0, none⟩) ∧ HostW w lo g bm mb many til comp c0 c1 c2 ids (.slice none 0 0) (.slice Aq nw cq) (.slice Ar nk cr) 0 nw 0 nk [] ws [] ks else True
theorem hwA_12 (lo mb : Nat) (many til comp c0 c1 c2 ids : Int) (b5 : Nat) (Aw : Option Addr) (nw cw : Nat) (ws : List Rec) (Ak : Option Addr) (nk ck : Nat) (ks : List Kep) (v : Value) (w : World) : hwA lo mb many til comp c0 c1 c2 ids b5 Aw nw cw ws Ak nk ck ks 12 v w = (v = .agg #[.map (some mb), .int .i64 many, .int .i64 til]) := by simp [hwA]
theorem hwA_13 (lo mb : Nat) (many til comp c0 c1 c2 ids : Int) (b5 : Nat) (Aw : Option Addr) (nw cw : Nat) (ws : List Rec) (Ak : Option Addr) (nk ck : Nat) (ks : List Kep) (v : Value) (w : World) : hwA lo mb many til comp c0 c1 c2 ids b5 Aw nw cw ws Ak nk ck ks 13 v w = (v = .int .i64 comp) := by simp [hwA]
theorem hwA_14 (lo mb : Nat) (many til comp c0 c1 c2 ids : Int) (b5 : Nat) (Aw : Option Addr) (nw cw : Nat) (ws : List Rec) (Ak : Option Addr) (nk ck : Nat) (ks : List Kep) (v : Value) (w : World) : hwA lo mb many til comp c0 c1 c2 ids b5 Aw nw cw ws Ak nk ck ks 14 v w = (v = .pointer (some ⟨b5, 0, none⟩)) := by simp [hwA]
theorem hwA_15 (lo mb : Nat) (many til comp c0 c1 c2 ids : Int) (b5 : Nat) (Aw : Option Addr) (nw cw : Nat) (ws : List Rec) (Ak : Option Addr) (nk ck : Nat) (ks : List Kep) (v : Value) (w : World) : hwA lo mb many til comp c0 c1 c2 ids b5 Aw nw cw ws Ak nk ck ks 15 v w = (v = .agg #[.int .i64 c0, .int .i64 c1, .int .i64 c2]) := by simp [hwA]
theorem hwA_16 (lo mb : Nat) (many til comp c0 c1 c2 ids : Int) (b5 : Nat) (Aw : Option Addr) (nw cw : Nat) (ws : List Rec) (Ak : Option Addr) (nk ck : Nat) (ks : List Kep) (v : Value) (w : World) : hwA lo mb many til comp c0 c1 c2 ids b5 Aw nw cw ws Ak nk ck ks 16 v w = (v = .pointer (some ⟨b5, 3, none⟩)) := by simp [hwA]
theorem hwA_17 (lo mb : Nat) (many til comp c0 c1 c2 ids : Int) (b5 : Nat) (Aw : Option Addr) (nw cw : Nat) (ws : List Rec) (Ak : Option Addr) (nk ck : Nat) (ks : List Kep) (v : Value) (w : World) : hwA lo mb many til comp c0 c1 c2 ids b5 Aw nw cw ws Ak nk ck ks 17 v w = (v = .int .i64 ids) := by simp [hwA]
theorem hwA_18 (lo mb : Nat) (many til comp c0 c1 c2 ids : Int) (b5 : Nat) (Aw : Option Addr) (nw cw : Nat) (ws : List Rec) (Ak : Option Addr) (nk ck : Nat) (ks : List Kep) (v : Value) (w : World) : hwA lo mb many til comp c0 c1 c2 ids b5 Aw nw cw ws Ak nk ck ks 18 v w = (v = .pointer (some ⟨b5, 5, none⟩)) := by simp [hwA]
theorem hwA_19 (lo mb : Nat) (many til comp c0 c1 c2 ids : Int) (b5 : Nat) (Aw : Option Addr) (nw cw : Nat) (ws : List Rec) (Ak : Option Addr) (nk ck : Nat) (ks : List Kep) (v : Value) (w : World) : hwA lo mb many til comp c0 c1 c2 ids b5 Aw nw cw ws Ak nk ck ks 19 v w = (v = .slice Aw nw cw) := by simp [hwA]
theorem hwA_20 (lo mb : Nat) (many til comp c0 c1 c2 ids : Int) (b5 : Nat) (Aw : Option Addr) (nw cw : Nat) (ws : List Rec) (Ak : Option Addr) (nk ck : Nat) (ks : List Kep) (v : Value) (w : World) : hwA lo mb many til comp c0 c1 c2 ids b5 Aw nw cw ws Ak nk ck ks 20 v w = (∃ q, v = .slice (some ⟨q, 0, none⟩) 1 1 ∧ Blk w q 43 #[.slice Aw nw cw]) := by simp [hwA]
theorem hwA_21 (lo mb : Nat) (many til comp c0 c1 c2 ids : Int) (b5 : Nat) (Aw : Option Addr) (nw cw : Nat) (ws : List Rec) (Ak : Option Addr) (nk ck : Nat) (ks : List Kep) (v : Value) (w : World) : hwA lo mb many til comp c0 c1 c2 ids b5 Aw nw cw ws Ak nk ck ks 21 v w = (∃ Aq cq, v = .slice Aq nw cq ∧ w.ownsRow lo 109 7 (.slice Aq nw cq) nw (flat7 ws)) := by simp [hwA]
theorem hwA_22 (lo mb : Nat) (many til comp c0 c1 c2 ids : Int) (b5 : Nat) (Aw : Option Addr) (nw cw : Nat) (ws : List Rec) (Ak : Option Addr) (nk ck : Nat) (ks : List Kep) (v : Value) (w : World) : hwA lo mb many til comp c0 c1 c2 ids b5 Aw nw cw ws Ak nk ck ks 22 v w = (∃ bm, v = .map (some bm) ∧ lo ≤ bm ∧ ISet w bm 0 []) := by simp [hwA]
theorem hwA_23 (lo mb : Nat) (many til comp c0 c1 c2 ids : Int) (b5 : Nat) (Aw : Option Addr) (nw cw : Nat) (ws : List Rec) (Ak : Option Addr) (nk ck : Nat) (ks : List Kep) (v : Value) (w : World) : hwA lo mb many til comp c0 c1 c2 ids b5 Aw nw cw ws Ak nk ck ks 23 v w = (v = .pointer (some ⟨b5, 7, none⟩)) := by simp [hwA]
theorem hwA_24 (lo mb : Nat) (many til comp c0 c1 c2 ids : Int) (b5 : Nat) (Aw : Option Addr) (nw cw : Nat) (ws : List Rec) (Ak : Option Addr) (nk ck : Nat) (ks : List Kep) (v : Value) (w : World) : hwA lo mb many til comp c0 c1 c2 ids b5 Aw nw cw ws Ak nk ck ks 24 v w = (v = .slice Ak nk ck) := by simp [hwA]
theorem hwA_25 (lo mb : Nat) (many til comp c0 c1 c2 ids : Int) (b5 : Nat) (Aw : Option Addr) (nw cw : Nat) (ws : List Rec) (Ak : Option Addr) (nk ck : Nat) (ks : List Kep) (v : Value) (w : World) : hwA lo mb many til comp c0 c1 c2 ids b5 Aw nw cw ws Ak nk ck ks 25 v w = (∃ q, v = .slice (some ⟨q, 0, none⟩) 1 1 ∧ Blk w q 44 #[.slice Ak nk ck]) := by simp [hwA]
theorem hwA_26 (lo mb : Nat) (many til comp c0 c1 c2 ids : Int) (b5 : Nat) (Aw : Option Addr) (nw cw : Nat) (ws : List Rec) (Ak : Option Addr) (nk ck : Nat) (ks : List Kep) (v : Value) (w : World) : hwA lo mb many til comp c0 c1 c2 ids b5 Aw nw cw ws Ak nk ck ks 26 v w = (∃ Ar cr, v = .slice Ar nk cr ∧ w.ownsRow lo 111 13 (.slice Ar nk cr) nk (flat13 ks)) := by simp [hwA]
theorem hwA_27 (lo mb : Nat) (many til comp c0 c1 c2 ids : Int) (b5 : Nat) (Aw : Option Addr) (nw cw : Nat) (ws : List Rec) (Ak : Option Addr) (nk ck : Nat) (ks : List Kep) (v : Value) (w : World) : hwA lo mb many til comp c0 c1 c2 ids b5 Aw nw cw ws Ak nk ck ks 27 v w = (∃ Aq cq bm Ar cr, v = .agg #[.map (some mb), .int .i64 many, .int .i64 til, .int .i64 comp, .int .i64 c0, .int .i64 c1, .int .i64 c2, .int .i64 ids, (.slice none 0 0), .int .i64 0, (.slice Aq nw cq), .map (some bm), (.slice Ar nk cr)] ∧ w.ownsRow lo 109 7 (.slice Aq nw cq) nw (flat7 ws) ∧ lo ≤ bm ∧ ISet w bm 0 [] ∧ w.ownsRow lo 111 13 (.slice Ar nk cr) nk (flat13 ks)) := by simp [hwA]
theorem hwA_28 (lo mb : Nat) (many til comp c0 c1 c2 ids : Int) (b5 : Nat) (Aw : Option Addr) (nw cw : Nat) (ws : List Rec) (Ak : Option Addr) (nk ck : Nat) (ks : List Kep) (v : Value) (w : World) : hwA lo mb many til comp c0 c1 c2 ids b5 Aw nw cw ws Ak nk ck ks 28 v w = (∃ g Aq cq bm Ar cr, v = .pointer (some ⟨g, 0, none⟩) ∧ HostW w lo g bm mb many til comp c0 c1 c2 ids (.slice none 0 0) (.slice Aq nw cq) (.slice Ar nk cr) 0 nw 0 nk [] ws [] ks) := by simp [hwA]
theorem hwA_up (lo mb : Nat) (many til comp c0 c1 c2 ids : Int) (b5 : Nat) (Aw : Option Addr) (nw cw : Nat) (ws : List Rec) (Ak : Option Addr) (nk ck : Nat) (ks : List Kep) (d : Nat) {v : Value} {w w' : World} (h : hwA lo mb many til comp c0 c1 c2 ids b5 Aw nw cw ws Ak nk ck ks d v w) (u : Up w w') : hwA lo mb many til comp c0 c1 c2 ids b5 Aw nw cw ws Ak nk ck ks d v w' := by
  unfold hwA at h ⊢
  by_cases h12 : d = 12
  · rw [if_pos h12] at h ⊢
    exact h
  rw [if_neg h12] at h ⊢
  by_cases h13 : d = 13
  · rw [if_pos h13] at h ⊢
    exact h
  rw [if_neg h13] at h ⊢
  by_cases h14 : d = 14
  · rw [if_pos h14] at h ⊢
    exact h
  rw [if_neg h14] at h ⊢
  by_cases h15 : d = 15
  · rw [if_pos h15] at h ⊢
    exact h
  rw [if_neg h15] at h ⊢
  by_cases h16 : d = 16
  · rw [if_pos h16] at h ⊢
    exact h
  rw [if_neg h16] at h ⊢
  by_cases h17 : d = 17
  · rw [if_pos h17] at h ⊢
    exact h
  rw [if_neg h17] at h ⊢
  by_cases h18 : d = 18
  · rw [if_pos h18] at h ⊢
    exact h
  rw [if_neg h18] at h ⊢
  by_cases h19 : d = 19
  · rw [if_pos h19] at h ⊢
    exact h
  rw [if_neg h19] at h ⊢
  by_cases h20 : d = 20
  · rw [if_pos h20] at h ⊢
    exact (by obtain ⟨q, h0, h1⟩ := h; exact ⟨q, h0, h1.up u⟩)
  rw [if_neg h20] at h ⊢
  by_cases h21 : d = 21
  · rw [if_pos h21] at h ⊢
    exact (by obtain ⟨a, c, h0, h1⟩ := h; exact ⟨a, c, h0, own_up h1 u⟩)
  rw [if_neg h21] at h ⊢
  by_cases h22 : d = 22
  · rw [if_pos h22] at h ⊢
    exact (by obtain ⟨q, h0, h1, h2⟩ := h; exact ⟨q, h0, h1, h2.up u⟩)
  rw [if_neg h22] at h ⊢
  by_cases h23 : d = 23
  · rw [if_pos h23] at h ⊢
    exact h
  rw [if_neg h23] at h ⊢
  by_cases h24 : d = 24
  · rw [if_pos h24] at h ⊢
    exact h
  rw [if_neg h24] at h ⊢
  by_cases h25 : d = 25
  · rw [if_pos h25] at h ⊢
    exact (by obtain ⟨q, h0, h1⟩ := h; exact ⟨q, h0, h1.up u⟩)
  rw [if_neg h25] at h ⊢
  by_cases h26 : d = 26
  · rw [if_pos h26] at h ⊢
    exact (by obtain ⟨a, c, h0, h1⟩ := h; exact ⟨a, c, h0, own_up h1 u⟩)
  rw [if_neg h26] at h ⊢
  by_cases h27 : d = 27
  · rw [if_pos h27] at h ⊢
    exact (by obtain ⟨a, c, q, a2, cc2, h0, h1, h2, h3, h4⟩ := h; exact ⟨a, c, q, a2, cc2, h0, own_up h1 u, h2, h3.up u, own_up h4 u⟩)
  rw [if_neg h27] at h ⊢
  by_cases h28 : d = 28
  · rw [if_pos h28] at h ⊢
    exact (by obtain ⟨g, a, c, q, a2, cc2, h0, h1⟩ := h; exact ⟨g, a, c, q, a2, cc2, h0, h1.up u⟩)
  rw [if_neg h28] at h ⊢
  exact trivial
set_option maxHeartbeats 3000000 in
theorem host_any (mb : Nat) (many til comp c0 c1 c2 ids : Int) (Ad : Option Addr) (nd cd : Nat) (Aw : Option Addr) (nw cw : Nat) (Aa : Option Addr) (na ca : Nat) (Ak : Option Addr) (nk ck : Nat) (ds : List Don) (ws vs : List Rec) (ks : List Kep) (w : World) (hD : Dons w Ad nd ds) (hW : Recs w Aw nw ws) (hA : Recs w Aa na vs) (hK : Keps w Ak nk ks) (hl : nd ≤ 1048576 ∧ nw ≤ 1048576 ∧ na ≤ 1048576 ∧ nk ≤ 1048576) (hS : SmallD ds) (hO : ∀ r, r ∈ vs → r.ok) :
    Calls Tryz.prog 70 #[.agg #[.map (some mb), .int .i64 many, .int .i64 til], .int .i64 comp, .agg #[.int .i64 c0, .int .i64 c1, .int .i64 c2, .int .i64 ids, .slice Ad nd cd, .slice Aw nw cw, .slice Aa na ca, .slice Ak nk ck]] w fun x w' => ∃ g bm v Aq cq Ar cr, x = .returned (.pointer (some ⟨g, 0, none⟩)) ∧ HostW w' w.heap.size g bm mb many til comp c0 c1 c2 ids v (.slice Aq nw cq) (.slice Ar nk cr) nd nw na nk ds ws vs ks ∧ Up w w' := by
  have BM := Lib.hid ((Blk.new w #[.map (some mb), .int .i64 many, .int .i64 til] 125).alloc (.cells #[.int .i64 c0, .int .i64 c1, .int .i64 c2, .int .i64 ids, .slice Ad nd cd, .slice Aw nw cw, .slice Aa na ca, .slice Ak nk ck] 46))
  have BH := Lib.hid (Blk.new (w.alloc (.cells #[.map (some mb), .int .i64 many, .int .i64 til] 125)) #[.int .i64 c0, .int .i64 c1, .int .i64 c2, .int .i64 ids, .slice Ad nd cd, .slice Aw nw cw, .slice Aa na ca, .slice Ak nk ck] 46)
  simp only [World.size_alloc] at BH
  have U0 := Lib.hid (((Up.refl w).alloc (.cells #[.map (some mb), .int .i64 many, .int .i64 til] 125)).alloc (.cells #[.int .i64 c0, .int .i64 c1, .int .i64 c2, .int .i64 ids, .slice Ad nd cd, .slice Aw nw cw, .slice Aa na ca, .slice Ak nk ck] 46))
  have HD := Lib.hid hD
  have HA := Lib.hid hA
  have LD := Lib.hid hD.1
  have LA := Lib.hid hA.1
  have HS := Lib.hid hS
  have HO := Lib.hid hO
  have HL := Lib.hid hl
  have LW := Lib.hid hW.1
  have LK := Lib.hid hK.1
  have FI := fun (W : World) (u : Up w W) (q : Nat) (w1 : World) (hG : Up W w1) (hq : Blk w1 q 43 #[.slice Aw nw cw]) => concatI_any q 1 [ws] w1 (by simp) hq.lt (fun j hj => by
    obtain rfl : j = 0 := by simpa using hj
    have e := hW.1
    exact ⟨Aw, cw, by subst e; exact hq.cell (j := 0) rfl, by subst e; exact hW.up (u.trans hG)⟩) (by have := hW.1; have := hl.2.1; simp; omega)
  have FK := fun (W : World) (u : Up w W) (q : Nat) (w1 : World) (hG : Up W w1) (hq : Blk w1 q 44 #[.slice Ak nk ck]) => concatK_any q 1 [ks] w1 (by simp) hq.lt (fun j hj => by
    obtain rfl : j = 0 := by simpa using hj
    have e := hK.1
    exact ⟨Ak, ck, by subst e; exact hq.cell (j := 0) rfl, by subst e; exact hK.up (u.trans hG)⟩) (by have := hK.1; have := hl.2.2.2; simp; omega)
  simp only [List.flatten_cons, List.flatten_nil, List.append_nil, List.length_cons, List.length_nil, Nat.zero_add] at FI FK; unfold NewIt at FI; unfold NewKp at FK; rw [hW.1] at FI; rw [hK.1] at FK
  have LO := Lib.hid U0.out.size
  clear hD hW hA hK hl hS hO
  go_enter Tryz.func70, Tryz.ntmps70
  go_wp2_with fail
  have CI := Lib.hid (FI _ U0.out)
  have CK := Lib.hid (FK _ U0.out)
  clear FI FK
  generalize (w.alloc (.cells #[.map (some mb), .int .i64 many, .int .i64 til] 125)).alloc (.cells #[.int .i64 c0, .int .i64 c1, .int .i64 c2, .int .i64 ids, .slice Ad nd cd, .slice Aw nw cw, .slice Aa na ca, .slice Ak nk ck] 46) = W0 at *
  generalize hbH : w.heap.size + 1 = b5 at *
  generalize hbM : w.heap.size = lo at *
  have LOE := Lib.hid hbM
  clear hbH hbM; refine region_relyT 17 [] [(17, false)] [12, 13, 14, 15, 16, 17, 18, 19, 20, 21, 22, 23, 24, 25, 26, 27, 28] 17 (fun _ w1 => Up W0 w1) Up (fun i v w => hwA lo mb many til comp c0 c1 c2 ids b5 Aw nw cw ws Ak nk ck ks i v w) (by kernel_rfl) (by kernel_rfl) (by kernel_rfl) (by kernel_rfl) ((Up.refl _).drew) (fun slot_ _ _ _ h u => hwA_up lo mb many til comp c0 c1 c2 ids b5 Aw nw cw ws Ak nk ck ks slot_ h u) ?_ ?_ ?_
  · simp only [List.take_succ_cons, List.take_zero]
    refine stepsT_op (by kernel_rfl) ?_ ?_
    · intro X w1 k1 hG hdep
      obtain ⟨m0, m1, m2⟩ := And.intro ((BM.out.up hG).cell (j := 0) rfl) (And.intro ((BM.out.up hG).cell (j := 1) rfl) ((BM.out.up hG).cell (j := 2) rfl))
      have lm := (BM.out.up hG).lt
      simp only [opW_def, mixT]; go_simp
      exact ⟨⟨_, by first | rfl | simp [Act.put], Up.refl _, hG, (show hwA lo mb many til comp c0 c1 c2 ids b5 Aw nw cw ws Ak nk ck ks 12 _ _ from by first | (rw [hwA_12]; exact rfl) | rw [hwA_12])⟩⟩
    refine stepsT_op (by kernel_rfl) ?_ ?_
    · intro X w1 k1 hG hdep
      simp only [opW_def, mixT]; go_simp
      exact ⟨⟨_, by first | rfl | simp [Act.put], Up.refl _, hG, (show hwA lo mb many til comp c0 c1 c2 ids b5 Aw nw cw ws Ak nk ck ks 13 _ _ from by first | (rw [hwA_13]; exact rfl) | rw [hwA_13])⟩⟩
    refine stepsT_op (by kernel_rfl) ?_ ?_
    · intro X w1 k1 hG hdep
      simp only [opW_def, mixT]; go_simp
      exact ⟨⟨_, by first | rfl | simp [Act.put], Up.refl _, hG, (show hwA lo mb many til comp c0 c1 c2 ids b5 Aw nw cw ws Ak nk ck ks 14 _ _ from by first | (rw [hwA_14]; exact rfl) | rw [hwA_14])⟩⟩
    refine stepsT_op (by kernel_rfl) ?_ ?_
    · intro X w1 k1 hG hdep
      have e14 : hwA lo mb many til comp c0 c1 c2 ids b5 Aw nw cw ws Ak nk ck ks 14 (X 14) w1 := hdep 14 (by decide +kernel)
      rw [hwA_14] at e14
      have y0 := (BH.out.up hG).cell (j := 0) rfl
      have y1 := (BH.out.up hG).cell (j := 1) rfl
      have y2 := (BH.out.up hG).cell (j := 2) rfl
      have ly := (BH.out.up hG).lt
      simp only [opW_def, mixT, e14]; go_simp
      exact ⟨⟨_, by first | rfl | simp [Act.put], Up.refl _, hG, (show hwA lo mb many til comp c0 c1 c2 ids b5 Aw nw cw ws Ak nk ck ks 15 _ _ from by first | (rw [hwA_15]; exact rfl) | rw [hwA_15])⟩⟩
    refine stepsT_op (by kernel_rfl) ?_ ?_
    · intro X w1 k1 hG hdep
      simp only [opW_def, mixT]; go_simp
      exact ⟨⟨_, by first | rfl | simp [Act.put], Up.refl _, hG, (show hwA lo mb many til comp c0 c1 c2 ids b5 Aw nw cw ws Ak nk ck ks 16 _ _ from by first | (rw [hwA_16]; exact rfl) | rw [hwA_16])⟩⟩
    refine stepsT_op (by kernel_rfl) ?_ ?_
    · intro X w1 k1 hG hdep
      have e16 : hwA lo mb many til comp c0 c1 c2 ids b5 Aw nw cw ws Ak nk ck ks 16 (X 16) w1 := hdep 16 (by decide +kernel)
      rw [hwA_16] at e16
      have y3 := (BH.out.up hG).cell (j := 3) rfl
      have ly := (BH.out.up hG).lt
      simp only [opW_def, mixT, e16]; go_simp
      exact ⟨⟨_, by first | rfl | simp [Act.put], Up.refl _, hG, (show hwA lo mb many til comp c0 c1 c2 ids b5 Aw nw cw ws Ak nk ck ks 17 _ _ from by first | (rw [hwA_17]; exact rfl) | rw [hwA_17])⟩⟩
    refine stepsT_op (by kernel_rfl) ?_ ?_
    · intro X w1 k1 hG hdep
      simp only [opW_def, mixT]; go_simp
      exact ⟨⟨_, by first | rfl | simp [Act.put], Up.refl _, hG, (show hwA lo mb many til comp c0 c1 c2 ids b5 Aw nw cw ws Ak nk ck ks 18 _ _ from by first | (rw [hwA_18]; exact rfl) | rw [hwA_18])⟩⟩
    refine stepsT_op (by kernel_rfl) ?_ ?_
    · intro X w1 k1 hG hdep
      have e18 : hwA lo mb many til comp c0 c1 c2 ids b5 Aw nw cw ws Ak nk ck ks 18 (X 18) w1 := hdep 18 (by decide +kernel)
      rw [hwA_18] at e18
      have y5 := (BH.out.up hG).cell (j := 5) rfl
      have ly := (BH.out.up hG).lt
      simp only [opW_def, mixT, e18]; go_simp
      exact ⟨⟨_, by first | rfl | simp [Act.put], Up.refl _, hG, (show hwA lo mb many til comp c0 c1 c2 ids b5 Aw nw cw ws Ak nk ck ks 19 _ _ from by first | (rw [hwA_19]; exact rfl) | rw [hwA_19])⟩⟩
    refine stepsT_op (by kernel_rfl) ?_ ?_
    · intro X w1 k1 hG hdep
      have e19 : hwA lo mb many til comp c0 c1 c2 ids b5 Aw nw cw ws Ak nk ck ks 19 (X 19) w1 := hdep 19 (by decide +kernel)
      rw [hwA_19] at e19; simp only [opW_def, mixT, e19]; go_simp
      exact ⟨⟨_, by first | rfl | simp [Act.put], (Up.refl _).alloc _, hG.alloc _, (show hwA lo mb many til comp c0 c1 c2 ids b5 Aw nw cw ws Ak nk ck ks 20 _ _ from by first | (rw [hwA_20]; exact ⟨_, rfl, Blk.new _ _ _⟩) | rw [hwA_20])⟩⟩
    refine stepsT_op (by kernel_rfl) ?_ ?_
    · intro X w1 k1 hG hdep
      have e20 : hwA lo mb many til comp c0 c1 c2 ids b5 Aw nw cw ws Ak nk ck ks 20 (X 20) w1 := hdep 20 (by decide +kernel)
      rw [hwA_20] at e20; obtain ⟨q, e20, hq⟩ := e20
      have hlo1 := Nat.le_trans LO.out hG.size
      simp only [opW_def, mixT, e20]; go_simp; refine (CI.out q _ hG hq).mono ?_; rintro x wZ ⟨Aq, cq, rfl, _, _, _, hOw, u⟩
      exact ⟨⟨_, by first | rfl | simp [Act.put], u, hG.trans u, (show hwA lo mb many til comp c0 c1 c2 ids b5 Aw nw cw ws Ak nk ck ks 21 _ _ from by first | (rw [hwA_21]; exact ⟨_, _, rfl, own_mono hOw hlo1⟩) | rw [hwA_21])⟩⟩
    refine stepsT_op (by kernel_rfl) ?_ ?_
    · intro X w1 k1 hG hdep
      have hmm := run_makeMap (P := Tryz.prog) 132 w1
      simp only [opW_def, mixT]; go_simp
      exact ⟨⟨_, by first | rfl | simp [Act.put], (Up.refl _).alloc _, hG.alloc _, (show hwA lo mb many til comp c0 c1 c2 ids b5 Aw nw cw ws Ak nk ck ks 22 _ _ from by first | (rw [hwA_22]; exact ⟨_, rfl, Nat.le_trans LO.out hG.size, ISet.made _⟩) | rw [hwA_22])⟩⟩
    refine stepsT_op (by kernel_rfl) ?_ ?_
    · intro X w1 k1 hG hdep
      simp only [opW_def, mixT]; go_simp
      exact ⟨⟨_, by first | rfl | simp [Act.put], Up.refl _, hG, (show hwA lo mb many til comp c0 c1 c2 ids b5 Aw nw cw ws Ak nk ck ks 23 _ _ from by first | (rw [hwA_23]; exact rfl) | rw [hwA_23])⟩⟩
    refine stepsT_op (by kernel_rfl) ?_ ?_
    · intro X w1 k1 hG hdep
      have e23 : hwA lo mb many til comp c0 c1 c2 ids b5 Aw nw cw ws Ak nk ck ks 23 (X 23) w1 := hdep 23 (by decide +kernel)
      rw [hwA_23] at e23
      have y7 := (BH.out.up hG).cell (j := 7) rfl
      have ly := (BH.out.up hG).lt
      simp only [opW_def, mixT, e23]; go_simp
      exact ⟨⟨_, by first | rfl | simp [Act.put], Up.refl _, hG, (show hwA lo mb many til comp c0 c1 c2 ids b5 Aw nw cw ws Ak nk ck ks 24 _ _ from by first | (rw [hwA_24]; exact rfl) | rw [hwA_24])⟩⟩
    refine stepsT_op (by kernel_rfl) ?_ ?_
    · intro X w1 k1 hG hdep
      have e24 : hwA lo mb many til comp c0 c1 c2 ids b5 Aw nw cw ws Ak nk ck ks 24 (X 24) w1 := hdep 24 (by decide +kernel)
      rw [hwA_24] at e24; simp only [opW_def, mixT, e24]; go_simp
      exact ⟨⟨_, by first | rfl | simp [Act.put], (Up.refl _).alloc _, hG.alloc _, (show hwA lo mb many til comp c0 c1 c2 ids b5 Aw nw cw ws Ak nk ck ks 25 _ _ from by first | (rw [hwA_25]; exact ⟨_, rfl, Blk.new _ _ _⟩) | rw [hwA_25])⟩⟩
    refine stepsT_op (by kernel_rfl) ?_ ?_
    · intro X w1 k1 hG hdep
      have e25 : hwA lo mb many til comp c0 c1 c2 ids b5 Aw nw cw ws Ak nk ck ks 25 (X 25) w1 := hdep 25 (by decide +kernel)
      rw [hwA_25] at e25; obtain ⟨q, e25, hq⟩ := e25
      have hlo1 := Nat.le_trans LO.out hG.size
      simp only [opW_def, mixT, e25]; go_simp; refine (CK.out q _ hG hq).mono ?_; rintro x wZ ⟨Ar, cr, rfl, _, _, _, hOk, u⟩
      exact ⟨⟨_, by first | rfl | simp [Act.put], u, hG.trans u, (show hwA lo mb many til comp c0 c1 c2 ids b5 Aw nw cw ws Ak nk ck ks 26 _ _ from by first | (rw [hwA_26]; exact ⟨_, _, rfl, own_mono hOk hlo1⟩) | rw [hwA_26])⟩⟩
    refine stepsT_op (by kernel_rfl) ?_ ?_
    · intro X w1 k1 hG hdep
      have e12 : hwA lo mb many til comp c0 c1 c2 ids b5 Aw nw cw ws Ak nk ck ks 12 (X 12) w1 := hdep 12 (by decide +kernel)
      rw [hwA_12] at e12
      have e13 : hwA lo mb many til comp c0 c1 c2 ids b5 Aw nw cw ws Ak nk ck ks 13 (X 13) w1 := hdep 13 (by decide +kernel)
      rw [hwA_13] at e13
      have e15 : hwA lo mb many til comp c0 c1 c2 ids b5 Aw nw cw ws Ak nk ck ks 15 (X 15) w1 := hdep 15 (by decide +kernel)
      rw [hwA_15] at e15
      have e17 : hwA lo mb many til comp c0 c1 c2 ids b5 Aw nw cw ws Ak nk ck ks 17 (X 17) w1 := hdep 17 (by decide +kernel)
      rw [hwA_17] at e17
      have e21 : hwA lo mb many til comp c0 c1 c2 ids b5 Aw nw cw ws Ak nk ck ks 21 (X 21) w1 := hdep 21 (by decide +kernel)
      rw [hwA_21] at e21; obtain ⟨Aq, cq, e21, hOw⟩ := e21
      have e22 : hwA lo mb many til comp c0 c1 c2 ids b5 Aw nw cw ws Ak nk ck ks 22 (X 22) w1 := hdep 22 (by decide +kernel)
      rw [hwA_22] at e22; obtain ⟨bm, e22, hbm, hS⟩ := e22
      have e26 : hwA lo mb many til comp c0 c1 c2 ids b5 Aw nw cw ws Ak nk ck ks 26 (X 26) w1 := hdep 26 (by decide +kernel)
      rw [hwA_26] at e26; obtain ⟨Ar, cr, e26, hOk⟩ := e26; simp only [opW_def, mixT, e12, e13, e15, e17, e21, e22, e26]; go_simp
      exact ⟨⟨_, by first | rfl | simp [Act.put], Up.refl _, hG, (show hwA lo mb many til comp c0 c1 c2 ids b5 Aw nw cw ws Ak nk ck ks 27 _ _ from by first | (rw [hwA_27]; exact ⟨_, _, _, _, _, rfl, hOw, hbm, hS, hOk⟩) | rw [hwA_27])⟩⟩
    refine stepsT_op (by kernel_rfl) ?_ ?_
    · intro X w1 k1 hG hdep
      have e27 : hwA lo mb many til comp c0 c1 c2 ids b5 Aw nw cw ws Ak nk ck ks 27 (X 27) w1 := hdep 27 (by decide +kernel)
      rw [hwA_27] at e27; obtain ⟨Aq, cq, bm, Ar, cr, e27, hOw, hbm, hS, hOk⟩ := e27; simp only [opW_def, mixT, e27]; go_simp
      exact ⟨⟨_, by first | rfl | simp [Act.put], (Up.refl _).alloc _, hG.alloc _, (show hwA lo mb many til comp c0 c1 c2 ids b5 Aw nw cw ws Ak nk ck ks 28 _ _ from by first | (rw [hwA_28]; exact ⟨_, _, _, _, _, _, rfl, ⟨Nat.le_trans LO.out hG.size, Blk.new _ _ _, DonW.start _ _, own_up hOw ((Up.refl _).alloc _), own_up hOk ((Up.refl _).alloc _), hbm, hS.up ((Up.refl _).alloc _)⟩⟩) | rw [hwA_28])⟩⟩
    exact trivial
  · intro h p _ hp
    cases hp
  · intro X wX hG hR
    have e28 : hwA lo mb many til comp c0 c1 c2 ids b5 Aw nw cw ws Ak nk ck ks 28 (X 28) wX := hR 16 (by omega)
    rw [hwA_28] at e28; obtain ⟨g, Aq, cq, bm, Ar, cr, e28, hHW⟩ := e28; simp only [mixT, e28]
    replace U0 := Lib.hid (U0.out.trans hG)
    replace BM := Lib.hid (BM.out.up hG)
    replace BH := Lib.hid (BH.out.up hG)
    replace LO := Lib.hid (Nat.le_trans LO.out hG.size)
    have HW := Lib.hid hHW
    clear hR hG e28 hHW CI CK; refine mix_go rfl (by rfl) (fun K hK => ?_); go_simp; refine hK _ _ ?_; clear hK K; refine mix_nil ?_
    have y4 := BH.out.cell (j := 4) rfl
    have ly := BH.out.lt
    go_wp2_with fail
    clear y4 ly
    go_loopw [32] (fun i wr => (∃ k : Nat, k ≤ nd ∧ i = .int .i64 k ∧ ∃ v, HostW wr lo g bm mb many til comp c0 c1 c2 ids v (.slice Aq nw cq) (.slice Ar nk cr) k nw 0 nk (ds.take k) ws [] ks) ∧ Blk wr b5 46 #[.int .i64 c0, .int .i64 c1, .int .i64 c2, .int .i64 ids, .slice Ad nd cd, .slice Aw nw cw, .slice Aa na ca, .slice Ak nk ck] ∧ Up w wr) (fun i _ => nd - (intOf i).toNat)
    case atStart => exact ⟨⟨0, by omega, rfl, _, HW.out⟩, BH.out, U0.out⟩
    case round =>
      obtain ⟨⟨k, hk, rfl, v, hh⟩, bh, ur⟩ := hrel
      have HH := Lib.hid hh
      have BR := Lib.hid bh
      have UR := Lib.hid ur
      clear hh ur bh BH BM U0 HW
      by_cases hlt : k < nd
      · obtain ⟨b, off, hA, hb, hc⟩ := (HD.out.up UR.out).2.2 (by omega)
        subst hA
        have a0 := hc k hlt
        have sm := HS.out k (by rw [LD.out]; exact hlt)
        have TK := Lib.hid (take_one ds k (by rw [LD.out]; exact hlt))
        have hkb : k ≤ 1048576 := by have := HL.out.1; omega
        clear hc
        generalize ds.getD k default = p at a0 sm TK
        obtain ⟨S3, l3, e3, a0, hl3, hr3⟩ := a0; obtain ⟨xs, hxs⟩ := HH.out.done.own
        have CP := fun (A4 : Option Addr) (c4 : Nat) (W : World) (h : HostW W lo g bm mb many til comp c0 c1 c2 ids v (.slice Aq nw cq) (.slice Ar nk cr) k nw 0 nk (ds.take k) ws [] ks) (ho : W.ownsRow lo 117 12 v k xs) (hlo : lo ≤ W.heap.size) => pushD_any lo g 8 k 134 v _ xs p A4 l3 c4 W ho h.off h.blk rfl hlo (by omega)
        have PU := fun (s : Value) (W W' : World) (h : HostW W lo g bm mb many til comp c0 c1 c2 ids v (.slice Aq nw cq) (.slice Ar nk cr) k nw 0 nk (ds.take k) ws [] ks) (hs : W.ownsRow lo 109 7 s p.sent.length (flat7 p.sent)) (ho : W.ownsRow lo 117 12 v k xs) hp => h.push (w' := W') hs ho hp
        have CS := fun (q : Nat) (W : World) (hq : Blk W q 43 #[.slice S3 l3 e3]) (hr : Recs W S3 l3 p.sent) => concatI_any q 1 [p.sent] W (by simp) hq.lt (fun j hj => by
          obtain rfl : j = 0 := by simpa using hj
          have e := hr.1
          exact ⟨S3, e3, by subst e; exact hq.cell (j := 0) rfl, by subst e; exact hr⟩) (by simp; omega)
        simp only [List.flatten_cons, List.flatten_nil, List.append_nil, List.length_cons, List.length_nil, Nat.zero_add] at CS; unfold NewIt at CS
        have hpl := hr3.1
        rw [hpl] at CS PU; obtain ⟨⟨⟨p0, p1, p2, p3, p4, p5⟩, p6⟩, ⟨p7, p8, p9⟩, p10, ps⟩ := p; unfold Don.v at CP; dsimp only at a0 sm hr3 TK CP PU CS hpl; obtain ⟨z0, z1, z2, z3, z4, z5, z6, z7, z8, z9, z10, z11⟩ := a0
        have i4 : (k : Int) < nd := by omega
        have i6 : IntKind.i64.wrap ((k : Int) + 1) = (k : Int) + 1 := IntWalk.i64_in _ (by omega)
        have RD := Lib.hid (hr3.up (((Up.refl _).alloc (.cells #[.int .i64 p0, .int .i64 p1, .int .i64 p2, .int .i64 p3, .int .i64 p4, .int .i64 p5, .int .i64 p6, .int .i64 p7, .int .i64 p8, .int .i64 p9, .int .i64 p10, .slice S3 l3 e3] 117)).alloc (.cells #[.slice S3 l3 e3] 43)))
        have BD := Lib.hid ((Blk.new wr #[.int .i64 p0, .int .i64 p1, .int .i64 p2, .int .i64 p3, .int .i64 p4, .int .i64 p5, .int .i64 p6, .int .i64 p7, .int .i64 p8, .int .i64 p9, .int .i64 p10, .slice S3 l3 e3] 117).alloc (.cells #[.slice S3 l3 e3] 43))
        have BS := Lib.hid (Blk.new (wr.alloc (.cells #[.int .i64 p0, .int .i64 p1, .int .i64 p2, .int .i64 p3, .int .i64 p4, .int .i64 p5, .int .i64 p6, .int .i64 p7, .int .i64 p8, .int .i64 p9, .int .i64 p10, .slice S3 l3 e3] 117)) #[.slice S3 l3 e3] 43)
        simp only [World.size_alloc] at BS
        have UA := Lib.hid (((Up.refl wr).alloc (.cells #[.int .i64 p0, .int .i64 p1, .int .i64 p2, .int .i64 p3, .int .i64 p4, .int .i64 p5, .int .i64 p6, .int .i64 p7, .int .i64 p8, .int .i64 p9, .int .i64 p10, .slice S3 l3 e3] 117)).alloc (.cells #[.slice S3 l3 e3] 43))
        have HX := Lib.hid hxs
        have HPL := Lib.hid hpl
        have CPq := Lib.hid CP
        have PUq := Lib.hid PU
        have CSq := Lib.hid CS
        have GL := Lib.hid HH.out.blk.lt
        have hbv : v.ownBlock ≠ some wr.heap.size := fun e => by have := (HX.out.lt _ e).2; omega
        have HBV := Lib.hid hbv
        have HK := Lib.hid hk
        clear hr3 hxs hpl CP PU CS sm hl3 hbv hkb hk
        go_wp2_with fail
        clear z0 z1 z2 z3 z4 z5 z6 z7 z8 z9 z10 z11 hb; refine (CSq.out _ _ BS.out RD.out).mono ?_
        generalize (wr.alloc (.cells #[.int .i64 p0, .int .i64 p1, .int .i64 p2, .int .i64 p3, .int .i64 p4, .int .i64 p5, .int .i64 p6, .int .i64 p7, .int .i64 p8, .int .i64 p9, .int .i64 p10, .slice S3 l3 e3] 117)).alloc (.cells #[.slice S3 l3 e3] 43) = WA at *
        generalize hb9 : wr.heap.size = b9 at *
        have B9 := Lib.hid hb9
        clear hb9; rintro x wC ⟨A4, c4, rfl, _, _, _, ow4, u4⟩
        have OW4 := Lib.hid (own_mono ow4 (b' := lo) (by have := UA.out.size; have := B9.out; have := UR.out.size; have := LOE.out; omega))
        replace BD := Lib.hid (BD.out.up u4)
        have UC := Lib.hid (UA.out.trans u4)
        clear ow4 u4 BS RD CSq UA
        have y11 := BD.out.cell (j := 11) rfl
        have f11 := BD.out.frozen 11
        have ly := BD.out.lt
        have BE := Lib.hid (BD.out.set 11 (.slice A4 l3 c4))
        simp only [List.setIfInBounds_toArray, List.set_cons_succ, List.set_cons_zero] at BE
        have UE : Up wr (wC.setCell ⟨b9, 11, none⟩ (.slice A4 l3 c4)) := UC.out.setCell (by rw [B9.out]; exact Nat.le_refl _) _
        have UE := Lib.hid UE
        have OW5 := Lib.hid (own_keep OW4.out (w' := wC.setCell ⟨b9, 11, none⟩ (.slice A4 l3 c4)) (fun q hq hl => Below.heap_setCell wC ⟨b9, 11, none⟩ (.slice A4 l3 c4) q (own_off OW4.out BD.out (by decide) q hq)))
        clear BD UC OW4
        go_wp2_with fail
        clear y11 f11 ly
        generalize wC.setCell ⟨b9, 11, none⟩ (.slice A4 l3 c4) = wD at *
        have HHD := Lib.hid (HH.out.up UE.out.drew)
        have HXD := Lib.hid (own_up HX.out UE.out.drew)
        have OW6 := Lib.hid (own_up OW5.out (Up.refl _).drew)
        have BED := Lib.hid (BE.out.up (Up.refl _).drew)
        have HBE := BE.out
        refine region_mixH (fun w' => Blk w' b9 117 #[.int .i64 p0, .int .i64 p1, .int .i64 p2, .int .i64 p3, .int .i64 p4, .int .i64 p5, .int .i64 p6, .int .i64 p7, .int .i64 p8, .int .i64 p9, .int .i64 p10, .slice A4 l3 c4]) [(0, true), (1, true), (2, true), (3, true), (4, false)] (by kernel_rfl) (by kernel_rfl) HBE ?_; refine mixH_take rfl (by rfl) ?_; apply Exists.intro; refine ⟨fun w1 hS1 => ?_, ?_⟩
        · clear hS1
          go_simp
          try rfl
        go_simp; refine mixH_take rfl (by rfl) ?_; apply Exists.intro; refine ⟨fun w1 hS1 => ?_, ?_⟩
        · clear hS1
          go_simp
          try rfl
        go_simp; refine mixH_take rfl (by rfl) ?_; apply Exists.intro; refine ⟨fun w1 hS1 => ?_, ?_⟩
        · clear hS1
          go_simp
          try rfl
        go_simp; refine mixH_take rfl (by rfl) ?_; apply Exists.intro; refine ⟨fun w1 hS1 => ?_, ?_⟩
        · obtain ⟨q0, q1, q2, q3, q4, q5, q6, q7, q8, q9, q10, q11⟩ := And.intro (hS1.cell (j := 0) rfl) (And.intro (hS1.cell (j := 1) rfl) (And.intro (hS1.cell (j := 2) rfl) (And.intro (hS1.cell (j := 3) rfl) (And.intro (hS1.cell (j := 4) rfl) (And.intro (hS1.cell (j := 5) rfl) (And.intro (hS1.cell (j := 6) rfl) (And.intro (hS1.cell (j := 7) rfl) (And.intro (hS1.cell (j := 8) rfl) (And.intro (hS1.cell (j := 9) rfl) (And.intro (hS1.cell (j := 10) rfl) (hS1.cell (j := 11) rfl)))))))))))
          have ql := hS1.lt
          clear hS1; go_simp
          try rfl
        go_simp; refine mixH_go rfl (by rfl) (fun K hK => ?_); go_simp; refine (CPq.out A4 c4 _ HHD.out HXD.out (by have := UE.out.drew.size; have := B9.out; have := UR.out.size; have := LOE.out; omega)).mono ?_; rintro x wP ⟨rfl, hpd⟩; obtain ⟨v', h', fr⟩ := PUq.out _ _ _ HHD.out OW6.out HXD.out hpd
        have g9 : b9 ≠ g := by have := GL.out; have := B9.out; omega
        have BP : Blk wP b9 117 #[.int .i64 p0, .int .i64 p1, .int .i64 p2, .int .i64 p3, .int .i64 p4, .int .i64 p5, .int .i64 p6, .int .i64 p7, .int .i64 p8, .int .i64 p9, .int .i64 p10, .slice A4 l3 c4] := (fr.block b9 BED.out.lt g9 (fun e => HBV.out e.symm)).trans BED.out
        have UP1 : Up w wP := fr.up (UR.out.trans UE.out.drew) (by have := HH.out.lo_; rw [LOE.out]; exact this) (fun q hq => by have := (HX.out.lt q hq).1; rw [LOE.out]; exact this)
        have BR2 := BR.out.up UE.out.drew
        have BQ : Blk wP b5 46 _ := (fr.block b5 BR2.lt (BR2.ne HHD.out.blk (by decide)) (fun e => own_off HXD.out BR2 (by decide) b5 e.symm rfl)).trans BR2
        have BQ := Lib.hid BQ
        clear BR2; refine hK _ _ BP ?_; clear hK K
        have NX := Lib.hid h'
        have UP1 := Lib.hid UP1
        have FR := Lib.hid fr
        clear h' fr hpd BP HBE g9; go_simp; refine mixH_nil ?_; go_wp2
        go_roundw
        case rel => exact ⟨⟨k + 1, by omega, by go_num, v', by rw [TK.out]; exact NX.out⟩, BQ.out, UP1.out⟩
        case measure => simp [intOf]; omega
      · obtain rfl : k = nd := by omega
        have i4 : ¬ (k : Int) < k := by omega
        have HW := Lib.hid (show HostW wr lo g bm mb many til comp c0 c1 c2 ids v (.slice Aq nw cq) (.slice Ar nk cr) k nw 0 nk ds ws [] ks by have h := HH.out; rwa [List.take_of_length_le (by rw [LD.out]; exact Nat.le_refl _)] at h)
        have y6 := BR.out.cell (j := 6) rfl
        have ly := BR.out.lt
        clear HH
        go_wp2_with fail
        clear y6 ly
        go_loopw [50] (fun i wr => (∃ q : Nat, q ≤ na ∧ i = .int .i64 q ∧ HostW wr lo g bm mb many til comp c0 c1 c2 ids v (.slice Aq nw cq) (.slice Ar nk cr) k nw q nk ds ws (vs.take q) ks) ∧ Up w wr) (fun i _ => na - (intOf i).toNat)
        case atStart => exact ⟨⟨0, by omega, rfl, HW.out⟩, UR.out⟩
        case round =>
          obtain ⟨⟨q, hq, rfl, hh⟩, ur⟩ := hrel
          have HH := Lib.hid hh
          have UQ := Lib.hid ur
          clear hh ur HW BR UR
          by_cases hlt : q < na
          · obtain ⟨b, off, hA, hb, hc⟩ := (HA.out.up UQ.out).2 (by omega)
            subst hA
            have a0 := hc q hlt
            have TK := Lib.hid (take_one vs q (by rw [LA.out]; exact hlt))
            have ok1 := HO.out (vs.getD q default) (by
              have e : q < vs.length := by rw [LA.out]; exact hlt
              rw [show vs.getD q default = vs[q] by simp [List.getD, e]]
              exact List.getElem_mem e)
            have hqb : q ≤ 1048576 := by have := HL.out.2.2.1; omega
            clear hc
            generalize vs.getD q default = p at a0 ok1 TK
            have ST := fun (W : World) (h : ISet W bm q (vs.take q)) => h.store (by simp only [maxLen]; omega) p ok1 (.bool true)
            obtain ⟨⟨p0, p1, p2, p3, p4, p5⟩, p6⟩ := p; unfold Rec.v at ST; dsimp only at ST TK; obtain ⟨z0, z1, z2, z3, z4, z5, z6⟩ := a0; dsimp only at z0 z1 z2 z3 z4 z5 z6
            have i4 : (q : Int) < na := by omega
            have i6 : IntKind.i64.wrap ((q : Int) + 1) = (q : Int) + 1 := IntWalk.i64_in _ (by omega)
            have UE := Lib.hid (((Up.refl wr).alloc (.cells #[.int .i64 p0, .int .i64 p1, .int .i64 p2, .int .i64 p3, .int .i64 p4, .int .i64 p5, .int .i64 p6] 109)).drew)
            have HHD := Lib.hid (HH.out.up UE.out)
            obtain ⟨wP, hrun, hS2, hm2⟩ := ST _ HHD.out.anti
            have NX := Lib.hid (HHD.out.store hS2 hm2)
            have g11 := HH.out.blk.cell (j := 11) rfl
            have gl := HH.out.blk.lt
            have UP := Lib.hid ((hm2.up (UQ.out.trans UE.out) (by rw [LOE.out]; exact HH.out.lm)))
            clear ST ok1 hS2 hm2 HHD UE hqb
            go_wp2_with fail
            go_region
            go_wp2
            go_roundw
            case rel => exact ⟨⟨q + 1, by omega, by go_num, by rw [TK.out]; exact NX.out⟩, UP.out⟩
            case measure => simp [intOf]; omega
          · obtain rfl : q = na := by omega
            have i4 : ¬ (q : Int) < q := by omega
            have HW := Lib.hid (show HostW wr lo g bm mb many til comp c0 c1 c2 ids v (.slice Aq nw cq) (.slice Ar nk cr) k nw q nk ds ws vs ks by have h := HH.out; rwa [List.take_of_length_le (by rw [LA.out]; exact Nat.le_refl _)] at h)
            clear HH; go_wp2; go_ret; refine ⟨g, rfl, ⟨bm, v, Aq, cq, Ar, cr, ?_⟩, UQ.out⟩; rw [LOE.out]
            exact HW.out
end Go.Proofs.YtlkmhmiamdbhcabGreat

/-
  What FnExactHstNew returns, in one sentence: true, with new blocks alone; for every model that lies in memory and every number.
-/
import Derived.Test.YtkfjemgelmbcfaaKIHsNew
import Derived.Test.YtkfjemgelmbcfaaKSHsNew
import Derived.Test.YtkfjemgelmbcfaaKHsEq
import Derived.Test.YtkfjemgelmbcfaaKWEsnw
namespace Go.Proofs.Ytkfjemgelmbcfaa
set_option maxRecDepth 100000
open Go.RowKit

/-- What lies in the waiting list. -/
structure HsOwn (w : World) (lo : Nat) (A : Option Addr) (n : Nat) (rs : List Rec) : Prop where
  v : Recs w A n rs
  m : Mkb w lo A n 7 94
theorem HsOwn.up {w w' : World} {lo n : Nat} {A : Option Addr} {rs : List Rec} (h : HsOwn w lo A n rs) (u : Up w w') : HsOwn w' lo A n rs := ⟨h.v.up u, h.m.up u⟩
theorem c7_int (r : Rec) (k : Nat) (hk : k < 7) : ∃ z, r.c7[k]? = some (.int .i64 z) := by
  have h : k = 0 ∨ k = 1 ∨ k = 2 ∨ k = 3 ∨ k = 4 ∨ k = 5 ∨ k = 6 := by omega
  rcases h with rfl | rfl | rfl | rfl | rfl | rfl | rfl <;> exact ⟨_, rfl⟩
theorem Mkb.own7 {w : World} {lo e n c : Nat} {A : Option Addr} {rs : List Rec} (h : w.ownsRow lo e 7 (.slice A n c) n (flat7 rs)) : Mkb w lo A n 7 e := fun hn => by
  have hl : rs.length = n := by have := h.1; rw [flat7_len] at this; omega
  rcases h.2 with ⟨_, h0⟩ | ⟨g, cap, cur, hv, hg, hh, hnc, hm, hs, ht⟩
  · omega
  · injection hv with hA _ hcap
    subst hA hcap
    refine ⟨g, cur, rfl, hg, ⟨(Array.getElem?_eq_some_iff.1 hh).1, fun j hj => ⟨?_, ?_⟩⟩, hh⟩
    · have := h.cellAt j hj
      have e7 : j = j / 7 * 7 + j % 7 := by omega
      obtain ⟨z, hz⟩ := c7_int (rs.getD (j / 7) default) (j % 7) (by omega)
      refine ⟨z, this.trans ?_⟩
      rw [e7, flat7_get rs _ _ (by omega) (by omega)]
      simpa using hz
    · unfold World.frozen?
      rw [hh]
      simp
theorem HsOwn.ints {lo hi : Nat} {w w' : World} {l n : Nat} {A : Option Addr} {rs : List Rec} (h : HsOwn w l A n rs) (m : Ints lo hi w w') (hb : hi ≤ l) : HsOwn w' l A n rs := by
  refine ⟨⟨h.v.1, fun hn => ?_⟩, h.m.ints m hb⟩
  obtain ⟨b, off, hA, hlt, hc⟩ := h.v.2 hn
  obtain ⟨g, _, hA', hl, _, _⟩ := h.m hn
  have : b = g := by rw [hA] at hA'; injection hA' with e; injection e
  subst this
  exact ⟨b, off, hA, Nat.lt_of_lt_of_le hlt m.size, fun i hi => (hc i hi).keep fun j => m.cells b j hlt (.inr (by omega))⟩
theorem Blk.ints {lo hi b t : Nat} {w w' : World} {arr : Array Value} (h : Blk w b t arr) (m : Ints lo hi w w') (hb : b < lo ∨ hi ≤ b) : Blk w' b t arr := (m.block b h.lt hb).trans h
theorem HsRes.open_ {lo : Nat} {m : Mdl} {comp : Int} {v : Value} {w : World} (h : HsRes lo m comp v w) :
    ∃ Aw cw, v = .agg #[.int .i64 0, .int .i64 0, .int .i64 0, .int .i64 0, .slice none 0 0, .slice Aw (hs0 m comp).length cw, .slice none 0 0, .slice none 0 0] ∧ HsOwn w lo Aw (hs0 m comp).length (hs0 m comp) := by
  obtain ⟨A, c, hv, _, _, ho⟩ := h
  exact ⟨A, c, hv, own7_recs ho, Mkb.own7 ho⟩

set_option maxHeartbeats 4000000 in
theorem walkEhsn (v : Value) (m : Mdl) {w : World} (h : ∃ A n c B k d, v = .agg #[.slice A n c, .slice B k d, .int .i64 m.til] ∧ MdlV w A n B k m) (comp : Int) (_hc : I64 comp) :
    Calls Try.prog 14 #[v, .int .i64 comp] w fun x w' => x = .returned (.bool true) ∧ Up w w' := by
  obtain ⟨A, n, c, B, k, d, rfl, hM⟩ := h
  have HM := Lib.hid hM
  have hk := hM.big
  have BX := Lib.hid (Box3.new w (.slice A n c) (.slice B k d) (.int .i64 m.til) 38)
  have CS := Lib.hid (fun W (u : Up w W) => szMdl_any A n c B k d m W (hM.up u))
  have CT := Lib.hid (fun W (u : Up w W) hS => toMdl_any A n c B k d m W (hM.up u) hS)
  have CP := Lib.hid (fun A n c B k d W (h : MdlV W A n B k m) => specHsNew_any A n c B k d m comp W h)
  have CI := Lib.hid (fun A n c B k d W (h : MdlV W A n B k m) => implHsNew_any A n c B k d m comp W h)
  have CE := Lib.hid (fun A n c B k d A' n' c' B' k' d' W (h1 : MdlV W A n B k m) (h2 : MdlV W A' n' B' k' m) (hS : FitM m) => eqMdl_any A n c B k d m A' n' c' B' k' d' m W h1 h2 hS)
  rw [decide_eq_true (rfl : m = m)] at CE
  have FEW := hs0_few m comp
  have OP := Lib.hid (fun lo v w (h : HsRes lo m comp v w) => h.open_)
  generalize hs0 m comp = s0 at OP FEW
  generalize hnw : s0.length = nw at OP FEW
  clear hnw
  have CQ := Lib.hid (fun A c B d W (h1 : Recs W A nw s0) (h2 : Recs W B nw s0) => eqHs_any A nw c B d s0 W (by omega) h1 h2)
  clear hM
  unfold NewMdl at CT
  generalize htil : m.til = til at *
  go_enter Try.func14, Try.ntmps14
  go_wp2_with fail
  refine (CS.out _ ((Up.refl _).alloc _)).mono ?_
  rintro x w1 ⟨z, rfl, hz, u1⟩
  have U1 := Lib.hid (((Up.refl w).alloc _).trans u1)
  have B1 := Lib.hid (BX.out.up u1)
  clear u1
  rcases hz with rfl | ⟨z0, z1, hS⟩
  · go_wp2
    go_ret
    exact ⟨rfl, U1.out⟩
  · have SH := Lib.hid hS
    have j0 : ¬ z < 0 := by omega
    have hn6 : n ≤ 1048576 := hS.few
    have hk6 : k ≤ 1048576 := by have := hS.fit.2; have := HM.out.starts.1; omega
    clear hS
    obtain ⟨q0, q1, q2⟩ := And.intro B1.out.c0 (And.intro B1.out.c1 B1.out.c2)
    go_wp2_with fail
    generalize hb3 : w.heap.size = b3 at *
    refine (CT.out _ U1.out SH.out).mono ?_
    rintro x w2 ⟨g1, g2, rfl, hg1, hg2, o1, o2, u2⟩
    have V2 := Lib.hid (NewMdl.v o1 o2 hk)
    have U2 := Lib.hid (U1.out.trans u2)
    have B2 := Lib.hid (B1.out.up u2)
    clear o1 o2 hg1 hg2 u2 q0 q1 q2
    go_wp2_with fail
    refine (CP.out _ _ _ _ _ _ _ V2.out).mono ?_
    rintro x w3 ⟨v, rfl, hres, u3⟩
    obtain ⟨Aw, cw, rfl, own⟩ := OP.out _ _ _ hres
    have ua := (Up.refl w3).alloc (.cells #[.int .i64 0, .int .i64 0, .int .i64 0, .int .i64 0, .slice none 0 0, .slice Aw nw cw, .slice none 0 0, .slice none 0 0] 90)
    have SV := Lib.hid (own.v.up ua)
    have X3 := Lib.hid (Blk.new w3 #[.int .i64 0, .int .i64 0, .int .i64 0, .int .i64 0, .slice none 0 0, .slice Aw nw cw, .slice none 0 0, .slice none 0 0] 90)
    have U3 := Lib.hid (U2.out.trans (u3.trans ua))
    have B3 := Lib.hid (B2.out.up (u3.trans ua))
    clear hres own u3 ua V2
    obtain ⟨q0, q1, q2⟩ := And.intro B3.out.c0 (And.intro B3.out.c1 B3.out.c2)
    go_wp2_with fail
    generalize hb4 : w3.heap.size = b4 at *
    generalize w3.alloc (.cells #[.int .i64 0, .int .i64 0, .int .i64 0, .int .i64 0, .slice none 0 0, .slice Aw nw cw, .slice none 0 0, .slice none 0 0] 90) = W3 at *
    clear hb4
    refine (CT.out _ U3.out SH.out).mono ?_
    rintro x w4 ⟨g1, g2, rfl, hg1, hg2, o1, o2, u4⟩
    have SZ1 := Lib.hid (o1.sh (lo := W3.heap.size) (hi := w4.heap.size) SH.out.shorts hg1 (Nat.le_refl _))
    have SZ2 := Lib.hid (o2.sh (lo := W3.heap.size) (hi := w4.heap.size) hg2 (Nat.le_refl _))
    have ua := (Up.refl w4).alloc (.cells #[.slice (some ⟨g1, 0, none⟩) n n, .slice (some ⟨g2, 0, none⟩) k k, .int .i64 til] 26)
    have X4 := Lib.hid (Box3.new w4 (.slice (some ⟨g1, 0, none⟩) n n) (.slice (some ⟨g2, 0, none⟩) k k) (.int .i64 til) 26)
    have VX := Lib.hid ((NewMdl.v o1 o2 hk).up ua)
    replace SZ1 := Lib.hid (SZ1.out.ints ua.ints)
    replace SZ2 := Lib.hid (SZ2.out.ints ua.ints)
    have U34 := Lib.hid (u4.trans ua)
    have hHI : W3.heap.size ≤ w4.heap.size := u4.size
    clear o1 o2 u4 ua q0 q1 q2 hg1 hg2
    go_wp2_with fail
    have HV0 := Lib.hid (show w4.heap.size + 1 = (w4.alloc (.cells #[.slice (some ⟨g1, 0, none⟩) n n, .slice (some ⟨g2, 0, none⟩) k k, .int .i64 til] 26)).heap.size by simp)
    generalize hb10 : w4.heap.size = b10 at *
    generalize w4.alloc (.cells #[.slice (some ⟨g1, 0, none⟩) n n, .slice (some ⟨g2, 0, none⟩) k k, .int .i64 til] 26) = V0 at *
    have hV0 : b10 + 1 = V0.heap.size := HV0.out
    clear hb10
    refine (CI.out _ _ _ _ _ _ _ VX.out).mono ?_
    rintro x w5 ⟨v, rfl, hres, u5⟩
    obtain ⟨Bw, dw, rfl, own⟩ := OP.out _ _ _ hres
    have ua := (Up.refl w5).alloc (.cells #[.int .i64 0, .int .i64 0, .int .i64 0, .int .i64 0, .slice none 0 0, .slice Bw nw dw, .slice none 0 0, .slice none 0 0] 90)
    have u6 := u5.trans ua
    have GO := Lib.hid (own.up ua)
    have NE := Lib.hid (fun h g => own.m.ne (Nat.le_refl _) h g)
    have X6 := Lib.hid (Blk.new w5 #[.int .i64 0, .int .i64 0, .int .i64 0, .int .i64 0, .slice none 0 0, .slice Bw nw dw, .slice none 0 0, .slice none 0 0] 90)
    replace U34 := Lib.hid (U34.out.trans u6)
    replace X4 := Lib.hid (X4.out.up u6)
    replace VX := Lib.hid (VX.out.up u6)
    replace SZ1 := Lib.hid (SZ1.out.ints u6.ints)
    replace SZ2 := Lib.hid (SZ2.out.ints u6.ints)
    have hb6l := Lib.hid (show V0.heap.size ≤ w5.heap.size from u5.size)
    have X3' := Lib.hid (X3.out.up U34.out)
    clear hres own u5 ua u6
    have p0 := X3'.out.cell (j := 0) rfl
    have p1 := X3'.out.cell (j := 1) rfl
    have p2 := X3'.out.cell (j := 2) rfl
    have p3 := X3'.out.cell (j := 3) rfl
    have p4 := X3'.out.cell (j := 4) rfl
    have p5 := X3'.out.cell (j := 5) rfl
    have p6 := X3'.out.cell (j := 6) rfl
    have p7 := X3'.out.cell (j := 7) rfl
    have lp := X3'.out.lt
    go_wp2_with fail
    have HV6 := Lib.hid (show w5.heap.size + 1 = (w5.alloc (.cells #[.int .i64 0, .int .i64 0, .int .i64 0, .int .i64 0, .slice none 0 0, .slice Bw nw dw, .slice none 0 0, .slice none 0 0] 90)).heap.size by simp)
    generalize hb6 : w5.heap.size = b6 at *
    generalize w5.alloc (.cells #[.int .i64 0, .int .i64 0, .int .i64 0, .int .i64 0, .slice none 0 0, .slice Bw nw dw, .slice none 0 0, .slice none 0 0] 90) = W6 at *
    clear p0 p1 p2 p3 p4 p5 p6 p7 lp
    clear hb6
    have hW6 : V0.heap.size ≤ W6.heap.size := by have := HV6.out; have := hb6l.out; omega
    refine (CQ.out _ _ _ _ _ GO.out.v (SV.out.up U34.out)).mono ?_
    rintro x w7 ⟨rfl, u7⟩
    replace U34 := Lib.hid (U34.out.trans u7)
    replace X4 := Lib.hid (X4.out.up u7)
    replace X6 := Lib.hid (X6.out.up u7)
    replace GO := Lib.hid (GO.out.up u7)
    replace VX := Lib.hid (VX.out.up u7)
    replace SZ1 := Lib.hid (SZ1.out.ints u7.ints)
    replace SZ2 := Lib.hid (SZ2.out.ints u7.ints)
    have hW7 : V0.heap.size ≤ w7.heap.size := by have := u7.size; omega
    have B7 := Lib.hid (B3.out.up U34.out)
    have U7 := Lib.hid (U3.out.trans U34.out)
    clear u7
    go_wp2_with fail
    have HB := And.intro B7.out.lt (And.intro X4.out.lt (And.intro B7.out.c0 (And.intro B7.out.c1 (And.intro B7.out.c2 (And.intro X4.out.c0 (And.intro X4.out.c1 X4.out.c2))))))
    have HH := Lib.hid HB
    obtain ⟨l0, l1, q0, q1, q2, r0, r1, r2⟩ := HB
    have ud := (Up.refl w7).drew
    go_region_held3 (fun w' => b3 < w'.heap.size ∧ b10 < w'.heap.size ∧ w'.cell? ⟨b3, 0, none⟩ = some (.slice A n c) ∧ w'.cell? ⟨b3, 1, none⟩ = some (.slice B k d) ∧ w'.cell? ⟨b3, 2, none⟩ = some (.int .i64 til) ∧ w'.cell? ⟨b10, 0, none⟩ = some (.slice (some ⟨g1, 0, none⟩) n n) ∧ w'.cell? ⟨b10, 1, none⟩ = some (.slice (some ⟨g2, 0, none⟩) k k) ∧ w'.cell? ⟨b10, 2, none⟩ = some (.int .i64 til))
      (first | (exact HH.out) | (exact two_up uF (by assumption)) | (exact two_up uE (by assumption)))
      (first
        | (go_at_call 20; refine (CT.out _ (U7.out.trans (Up.refl _).drew) SH.out).mono ?_; rintro x wE ⟨g5, g6, rfl, hg5, hg6, o5, o6, uE⟩; have VE := Lib.hid (NewMdl.v o5 o6 hk); clear o5 o6)
        | (go_at_call 21; refine (CE.out _ n n _ k k _ n n _ k k _ (VX.out.up ((Up.refl _).drew.trans uE)) VE.out SH.out.fit).mono ?_; rintro x wF ⟨rfl, uF⟩))
    have u8 := ((Up.refl w7).drew.trans uE).trans uF
    replace U34 := Lib.hid (U34.out.trans u8)
    replace X4 := Lib.hid (X4.out.up u8)
    replace X6 := Lib.hid (X6.out.up u8)
    replace GO := Lib.hid (GO.out.up u8)
    replace SZ1 := Lib.hid (SZ1.out.ints u8.ints)
    replace SZ2 := Lib.hid (SZ2.out.ints u8.ints)
    have hW8 : V0.heap.size ≤ wF.heap.size := by have := u8.size; omega
    clear u8 uE uF ud l0 l1 q0 q1 q2 r0 r1 r2 VE VX HH B7 U7
    obtain ⟨q0, q1, q2⟩ := And.intro X4.out.c0 (And.intro X4.out.c1 X4.out.c2)
    have hb6 : V0.heap.size ≤ b6 := hb6l.out
    go_wp2_with fail
    refine (markMdl_any W3.heap.size b10 g1 g2 n n k k til _ hn6 hk6 SZ1.out SZ2.out (by omega)).mono ?_
    rintro x w8 ⟨mz, rfl, hmz0, hmz1, m8⟩
    replace X6 := Lib.hid (X6.out.ints m8 (.inr (by omega)))
    replace GO := Lib.hid (GO.out.ints m8 (by omega))
    replace U34 := Lib.hid (m8.up U34.out (Nat.le_refl _))
    have hW9 : V0.heap.size ≤ w8.heap.size := by have := m8.size; omega
    have jm : ¬ mz < 0 := by omega
    clear m8 q0 q1 q2 SZ1 SZ2 X4
    replace X3' := Lib.hid (X3.out.up U34.out)
    have p0 := X3'.out.cell (j := 0) rfl
    have p1 := X3'.out.cell (j := 1) rfl
    have p2 := X3'.out.cell (j := 2) rfl
    have p3 := X3'.out.cell (j := 3) rfl
    have p4 := X3'.out.cell (j := 4) rfl
    have p5 := X3'.out.cell (j := 5) rfl
    have p6 := X3'.out.cell (j := 6) rfl
    have p7 := X3'.out.cell (j := 7) rfl
    have lp := X3'.out.lt
    have q0 := X6.out.cell (j := 0) rfl
    have q1 := X6.out.cell (j := 1) rfl
    have q2 := X6.out.cell (j := 2) rfl
    have q3 := X6.out.cell (j := 3) rfl
    have q4 := X6.out.cell (j := 4) rfl
    have q5 := X6.out.cell (j := 5) rfl
    have q6 := X6.out.cell (j := 6) rfl
    have q7 := X6.out.cell (j := 7) rfl
    have lq := X6.out.lt
    go_wp2_with fail
    refine (CQ.out _ _ _ _ _ GO.out.v (SV.out.up U34.out)).mono ?_
    rintro x w9 ⟨rfl, u9⟩
    replace U34 := Lib.hid (U34.out.trans u9)
    replace X6 := Lib.hid (X6.out.up u9)
    replace GO := Lib.hid (GO.out.up u9)
    have hW10 : V0.heap.size ≤ w9.heap.size := by have := u9.size; omega
    clear p0 p1 p2 p3 p4 p5 p6 p7 q0 q1 q2 q3 q4 q5 q6 q7 lp lq
    clear u9 X3'
    have q0 := X6.out.cell (j := 0) rfl
    have q1 := X6.out.cell (j := 1) rfl
    have q2 := X6.out.cell (j := 2) rfl
    have q3 := X6.out.cell (j := 3) rfl
    have q4 := X6.out.cell (j := 4) rfl
    have q5 := X6.out.cell (j := 5) rfl
    have q6 := X6.out.cell (j := 6) rfl
    have q7 := X6.out.cell (j := 7) rfl
    have lq := X6.out.lt
    go_wp2_with fail
    refine (markHs_any V0.heap.size Bw nw dw _ (by omega) GO.out.m).mono ?_
    rintro x w10 ⟨rfl, hheld, hup, hbx, hsz⟩
    have HE := Lib.hid hheld
    replace U34 := Lib.hid (hup _ U34.out (by omega) hW10)
    replace X6 := Lib.hid (hbx _ _ _ X6.out NE.out)
    have hW11 : V0.heap.size ≤ w10.heap.size := by omega
    clear q0 q1 q2 q3 q4 q5 q6 q7 lq
    clear hheld hup hbx hsz GO NE
    have q0 := X6.out.cell (j := 0) rfl
    have q1 := X6.out.cell (j := 1) rfl
    have q2 := X6.out.cell (j := 2) rfl
    have q3 := X6.out.cell (j := 3) rfl
    have q4 := X6.out.cell (j := 4) rfl
    have q5 := X6.out.cell (j := 5) rfl
    have q6 := X6.out.cell (j := 6) rfl
    have q7 := X6.out.cell (j := 7) rfl
    have lq := X6.out.lt
    have B7 := Lib.hid (B3.out.up U34.out)
    have U7 := Lib.hid (U3.out.trans U34.out)
    obtain ⟨r0, r1, r2⟩ := And.intro B7.out.c0 (And.intro B7.out.c1 B7.out.c2)
    go_wp2_with fail
    have jq : ¬ (1 + 7 * (nw : Int)) < 0 := by omega
    refine (heldHs_any Bw nw dw w10 (by omega) HE.out).mono ?_
    rintro x w11 ⟨rfl, u11⟩
    replace HE := Lib.hid (HE.out.up u11)
    replace U34 := Lib.hid (U34.out.trans u11)
    replace U7 := Lib.hid (U7.out.trans u11)
    replace X6 := Lib.hid (X6.out.up u11)
    clear q0 q1 q2 q3 q4 q5 q6 q7 lq
    clear u11 r0 r1 r2 B7
    have B7 := Lib.hid (B3.out.up U34.out)
    obtain ⟨r0, r1, r2⟩ := And.intro B7.out.c0 (And.intro B7.out.c1 B7.out.c2)
    go_wp2_with fail
    refine (CT.out _ U7.out SH.out).mono ?_
    rintro x w12 ⟨g5, g6, rfl, hg5, hg6, o5, o6, u12⟩
    have V12 := Lib.hid (NewMdl.v o5 o6 hk)
    clear o5 o6 hg5 hg6 r0 r1 r2 B7
    go_wp2_with fail
    refine (CI.out _ _ _ _ _ _ _ V12.out).mono ?_
    rintro x w13 ⟨v, rfl, hres, u13⟩
    obtain ⟨Dw, ew, rfl, own⟩ := OP.out _ _ _ hres
    have ua := (Up.refl w13).alloc (.cells #[.int .i64 0, .int .i64 0, .int .i64 0, .int .i64 0, .slice none 0 0, .slice Dw nw ew, .slice none 0 0, .slice none 0 0] 90)
    have u14 := (u12.trans u13).trans ua
    have DV := Lib.hid (own.v.up ua)
    replace HE := Lib.hid (HE.out.up u14)
    replace U34 := Lib.hid (U34.out.trans u14)
    replace X6 := Lib.hid (X6.out.up u14)
    clear hres own u12 u13 u14 ua V12
    have X3' := Lib.hid (X3.out.up U34.out)
    have p0 := X3'.out.cell (j := 0) rfl
    have p1 := X3'.out.cell (j := 1) rfl
    have p2 := X3'.out.cell (j := 2) rfl
    have p3 := X3'.out.cell (j := 3) rfl
    have p4 := X3'.out.cell (j := 4) rfl
    have p5 := X3'.out.cell (j := 5) rfl
    have p6 := X3'.out.cell (j := 6) rfl
    have p7 := X3'.out.cell (j := 7) rfl
    have lp := X3'.out.lt
    go_wp2_with fail
    generalize hb14 : w13.heap.size = b14 at *
    generalize w13.alloc (.cells #[.int .i64 0, .int .i64 0, .int .i64 0, .int .i64 0, .slice none 0 0, .slice Dw nw ew, .slice none 0 0, .slice none 0 0] 90) = W14 at *
    clear p0 p1 p2 p3 p4 p5 p6 p7 lp
    clear hb14 X3'
    refine (CQ.out _ _ _ _ _ DV.out (SV.out.up U34.out)).mono ?_
    rintro x w15 ⟨rfl, u15⟩
    replace HE := Lib.hid (HE.out.up u15)
    replace U34 := Lib.hid (U34.out.trans u15)
    replace X6 := Lib.hid (X6.out.up u15)
    clear u15 DV
    have q0 := X6.out.cell (j := 0) rfl
    have q1 := X6.out.cell (j := 1) rfl
    have q2 := X6.out.cell (j := 2) rfl
    have q3 := X6.out.cell (j := 3) rfl
    have q4 := X6.out.cell (j := 4) rfl
    have q5 := X6.out.cell (j := 5) rfl
    have q6 := X6.out.cell (j := 6) rfl
    have q7 := X6.out.cell (j := 7) rfl
    have lq := X6.out.lt
    go_wp2_with fail
    refine (heldHs_any Bw nw dw w15 (by omega) HE.out).mono ?_
    rintro x w16 ⟨rfl, u16⟩
    replace U7 := Lib.hid (U3.out.trans (U34.out.trans u16))
    clear q0 q1 q2 q3 q4 q5 q6 q7 lq
    clear u16
    go_wp2
    go_ret
    exact ⟨rfl, U7.out⟩

end Go.Proofs.Ytkfjemgelmbcfaa

/-
  What FnExactHstNew returns, in one sentence: true, with new blocks alone; for every model that lies in memory and every number.
  How a struct of three fields that came in is opened, in one sentence: by value it gives its fields; no condition is made.
  How a model that came in is opened, in one sentence: by value it gives its rows of rules, its events and its end; no condition is made.
  For every model and every number of a component the law FnExactHstNew returns true and leaves its arguments as they were; no condition.
-/
import Derived.Deep.RegionHeld3
import Derived.Test.YtipjcjjjkkaigaaDLEhsn01
import Derived.Test.YtipjcjjjkkaigaaDLEhsn02
import Derived.Test.YtipjcjjjkkaigaaDLEhsn07
import Derived.Test.YtipjcjjjkkaigaaDLEhsn12
import Derived.Test.YtipjcjjjkkaigaaDLEhsn13
import Derived.Test.YtipjcjjjkkaigaaDLEhsn14
import Derived.Test.YtipjcjjjkkaigaaRows
namespace Go.Proofs.Ytipjcjjjkkaigaa
set_option maxRecDepth 100000
open Go.RowKit
/-- What lies in the waiting list. -/
structure HsOwn (w : World) (lo : Nat) (A : Option Addr) (n : Nat) (rs : List Rec) : Prop where
  v : Recs w A n rs
  m : Mkb w lo A n 7 53
theorem HsOwn.up {w w' : World} {lo n : Nat} {A : Option Addr} {rs : List Rec} (h : HsOwn w lo A n rs) (u : Up w w') : HsOwn w' lo A n rs := ⟨h.v.up u, h.m.up u⟩
theorem c7_int (r : Rec) (k : Nat) (hk : k < 7) : ∃ z, r.c7[k]? = some (.int .i64 z) := by
  have h : k = 0 ∨ k = 1 ∨ k = 2 ∨ k = 3 ∨ k = 4 ∨ k = 5 ∨ k = 6 := by omega
  rcases h with rfl | rfl | rfl | rfl | rfl | rfl | rfl <;> exact ⟨_, rfl⟩
theorem Mkb.own7 {w : World} {lo e n c : Nat} {A : Option Addr} {rs : List Rec} (h : w.ownsRow lo e 7 (.slice A n c) n (flat7 rs)) : Mkb w lo A n 7 e := fun hn => by
  have hl : rs.length = n := by have := h.1; rw [flat7_len] at this; omega
  rcases h.2 with ⟨_, h0⟩ | ⟨g, cap, cur, hv, hg, hh, hnc, hm, hs, ht⟩
  · omega
  · injection hv with hA _ hcap
    subst hA hcap; refine ⟨g, cur, rfl, hg, ⟨(Array.getElem?_eq_some_iff.1 hh).1, fun j hj => ⟨?_, ?_⟩⟩, hh⟩
    · have := h.cellAt j hj
      have e7 : j = j / 7 * 7 + j % 7 := by omega
      obtain ⟨z, hz⟩ := c7_int (rs.getD (j / 7) default) (j % 7) (by omega); refine ⟨z, this.trans ?_⟩; rw [e7, flat7_get rs _ _ (by omega) (by omega)]
      simpa using hz
    · unfold World.frozen?
      rw [hh]; simp
theorem HsOwn.ints {lo hi : Nat} {w w' : World} {l n : Nat} {A : Option Addr} {rs : List Rec} (h : HsOwn w l A n rs) (m : Ints lo hi w w') (hb : hi ≤ l) : HsOwn w' l A n rs := by
  refine ⟨⟨h.v.1, fun hn => ?_⟩, h.m.ints m hb⟩; obtain ⟨b, off, hA, hlt, hc⟩ := h.v.2 hn; obtain ⟨g, _, hA', hl, _, _⟩ := h.m hn
  have : b = g := by rw [hA] at hA'; injection hA' with e; injection e
  subst this
  exact ⟨b, off, hA, Nat.lt_of_lt_of_le hlt m.size, fun i hi => (hc i hi).keep fun j => m.cells b j hlt (.inr (by omega))⟩
theorem Blk.ints {lo hi b t : Nat} {w w' : World} {arr : Array Value} (h : Blk w b t arr) (m : Ints lo hi w w') (hb : b < lo ∨ hi ≤ b) : Blk w' b t arr := (m.block b h.lt hb).trans h
theorem HsRes.open_ {lo : Nat} {m : Mdl} {comp : Int} {v : Value} {w : World} (h : HsRes lo m comp v w) :
    ∃ Aw cw, v = .agg #[.int .i64 0, .int .i64 0, .int .i64 0, .int .i64 0, .slice none 0 0, .slice Aw (hs0 m comp).length cw, .slice none 0 0, .slice none 0 0] ∧ HsOwn w lo Aw (hs0 m comp).length (hs0 m comp) := by
  obtain ⟨A, c, hv, _, _, ho⟩ := h
  exact ⟨A, c, hv, own7_recs ho, Mkb.own7 ho⟩
set_option maxHeartbeats 4000000 in
theorem walkEhsn (v : Value) (m : Mdl) {w : World} (h : ∃ A n c B k d, v = .agg #[.slice A n c, .slice B k d, .int .i64 m.til] ∧ MdlV w A n B k m) (comp : Int) (_hc : I64 comp) :
    Calls Try.prog 3 #[v, .int .i64 comp] w fun x w' => x = .returned (.bool true) ∧ Up w w' := by
  obtain ⟨A, n, c, B, k, d, rfl, hM⟩ := h
  have HM := Lib.hid hM
  have hk := hM.big
  have BX := Lib.hid (Box3.new w (.slice A n c) (.slice B k d) (.int .i64 m.til) 25)
  have CS := Lib.hid (fun W (u : Up w W) => szMdl_any A n c B k d m W (hM.up u))
  have CT := Lib.hid (fun W (u : Up w W) hS => toMdl_any A n c B k d m W (hM.up u) hS)
  have CP := Lib.hid (fun A n c B k d W (h : MdlV W A n B k m) => specHsNew_any A n c B k d m comp W h)
  have CI := Lib.hid (fun A n c B k d W (h : MdlV W A n B k m) => implHsNew_any A n c B k d m comp W h)
  have CE := Lib.hid (fun A n c B k d A' n' c' B' k' d' W (h1 : MdlV W A n B k m) (h2 : MdlV W A' n' B' k' m) (hS : FitM m) => eqMdl_any A n c B k d m A' n' c' B' k' d' m W h1 h2 hS)
  rw [decide_eq_true (rfl : m = m)] at CE
  have FEW := hs0_few m comp
  have OP := Lib.hid (fun lo v w (h : HsRes lo m comp v w) => h.open_)
  generalize hs0 m comp = s0 at OP FEW
  generalize hnw : s0.length = nw at OP FEW
  clear hnw
  have CQ := Lib.hid (fun A c B d W (h1 : Recs W A nw s0) (h2 : Recs W B nw s0) => eqHs_any A nw c B d s0 W (by omega) h1 h2)
  clear hM; unfold NewMdl at CT
  generalize htil : m.til = til at *
  go_enter Try.func3, Try.ntmps3
  go_wp2_with fail
  refine (CS.out _ ((Up.refl _).alloc _)).mono ?_; rintro x w1 ⟨z, rfl, hz, u1⟩
  have U1 := Lib.hid (((Up.refl w).alloc _).trans u1)
  have B1 := Lib.hid (BX.out.up u1)
  clear u1
  rcases hz with rfl | ⟨z0, z1, hS⟩
  · go_wp2
    go_ret
    exact ⟨rfl, U1.out⟩
  · have SH := Lib.hid hS
    have j0 : ¬ z < 0 := by omega
    have hn6 : n ≤ 1048576 := hS.few
    have hk6 : k ≤ 1048576 := by have := hS.fit.2; have := HM.out.starts.1; omega
    clear hS; obtain ⟨q0, q1, q2⟩ := And.intro B1.out.c0 (And.intro B1.out.c1 B1.out.c2)
    go_wp2_with fail
    generalize hb3 : w.heap.size = b3 at *
    refine (CT.out _ U1.out SH.out).mono ?_; rintro x w2 ⟨g1, g2, rfl, hg1, hg2, o1, o2, u2⟩
    have V2 := Lib.hid (NewMdl.v o1 o2 hk)
    have U2 := Lib.hid (U1.out.trans u2)
    have B2 := Lib.hid (B1.out.up u2)
    clear o1 o2 hg1 hg2 u2 q0 q1 q2
    go_wp2_with fail
    refine (CP.out _ _ _ _ _ _ _ V2.out).mono ?_; rintro x w3 ⟨v, rfl, hres, u3⟩; obtain ⟨Aw, cw, rfl, own⟩ := OP.out _ _ _ hres
    have ua := (Up.refl w3).alloc (.cells #[.int .i64 0, .int .i64 0, .int .i64 0, .int .i64 0, .slice none 0 0, .slice Aw nw cw, .slice none 0 0, .slice none 0 0] 33)
    have SV := Lib.hid (own.v.up ua)
    have X3 := Lib.hid (Blk.new w3 #[.int .i64 0, .int .i64 0, .int .i64 0, .int .i64 0, .slice none 0 0, .slice Aw nw cw, .slice none 0 0, .slice none 0 0] 33)
    have U3 := Lib.hid (U2.out.trans (u3.trans ua))
    have B3 := Lib.hid (B2.out.up (u3.trans ua))
    clear hres own u3 ua V2; obtain ⟨q0, q1, q2⟩ := And.intro B3.out.c0 (And.intro B3.out.c1 B3.out.c2)
    go_wp2_with fail
    generalize hb4 : w3.heap.size = b4 at *
    generalize w3.alloc (.cells #[.int .i64 0, .int .i64 0, .int .i64 0, .int .i64 0, .slice none 0 0, .slice Aw nw cw, .slice none 0 0, .slice none 0 0] 33) = W3 at *
    clear hb4; refine (CT.out _ U3.out SH.out).mono ?_; rintro x w4 ⟨g1, g2, rfl, hg1, hg2, o1, o2, u4⟩
    have SZ1 := Lib.hid (o1.sh (lo := W3.heap.size) (hi := w4.heap.size) SH.out.shorts hg1 (Nat.le_refl _))
    have SZ2 := Lib.hid (o2.sh (lo := W3.heap.size) (hi := w4.heap.size) hg2 (Nat.le_refl _))
    have ua := (Up.refl w4).alloc (.cells #[.slice (some ⟨g1, 0, none⟩) n n, .slice (some ⟨g2, 0, none⟩) k k, .int .i64 til] 38)
    have X4 := Lib.hid (Box3.new w4 (.slice (some ⟨g1, 0, none⟩) n n) (.slice (some ⟨g2, 0, none⟩) k k) (.int .i64 til) 38)
    have VX := Lib.hid ((NewMdl.v o1 o2 hk).up ua)
    replace SZ1 := Lib.hid (SZ1.out.ints ua.ints)
    replace SZ2 := Lib.hid (SZ2.out.ints ua.ints)
    have U34 := Lib.hid (u4.trans ua)
    have hHI : W3.heap.size ≤ w4.heap.size := u4.size
    clear o1 o2 u4 ua q0 q1 q2 hg1 hg2
    go_wp2_with fail
    have HV0 := Lib.hid (show w4.heap.size + 1 = (w4.alloc (.cells #[.slice (some ⟨g1, 0, none⟩) n n, .slice (some ⟨g2, 0, none⟩) k k, .int .i64 til] 38)).heap.size by simp)
    generalize hb10 : w4.heap.size = b10 at *
    generalize w4.alloc (.cells #[.slice (some ⟨g1, 0, none⟩) n n, .slice (some ⟨g2, 0, none⟩) k k, .int .i64 til] 38) = V0 at *
    have hV0 : b10 + 1 = V0.heap.size := HV0.out
    clear hb10; refine (CI.out _ _ _ _ _ _ _ VX.out).mono ?_; rintro x w5 ⟨v, rfl, hres, u5⟩; obtain ⟨Bw, dw, rfl, own⟩ := OP.out _ _ _ hres
    have ua := (Up.refl w5).alloc (.cells #[.int .i64 0, .int .i64 0, .int .i64 0, .int .i64 0, .slice none 0 0, .slice Bw nw dw, .slice none 0 0, .slice none 0 0] 33)
    have u6 := u5.trans ua
    have GO := Lib.hid (own.up ua)
    have NE := Lib.hid (fun h g => own.m.ne (Nat.le_refl _) h g)
    have X6 := Lib.hid (Blk.new w5 #[.int .i64 0, .int .i64 0, .int .i64 0, .int .i64 0, .slice none 0 0, .slice Bw nw dw, .slice none 0 0, .slice none 0 0] 33)
    replace U34 := Lib.hid (U34.out.trans u6)
    replace X4 := Lib.hid (X4.out.up u6)
    replace VX := Lib.hid (VX.out.up u6)
    replace SZ1 := Lib.hid (SZ1.out.ints u6.ints)
    replace SZ2 := Lib.hid (SZ2.out.ints u6.ints)
    have hb6l := Lib.hid (show V0.heap.size ≤ w5.heap.size from u5.size)
    have X3' := Lib.hid (X3.out.up U34.out)
    clear hres own u5 ua u6
    have p0 := X3'.out.cell (j := 0) rfl
    have p1 := X3'.out.cell (j := 1) rfl
    have p2 := X3'.out.cell (j := 2) rfl
    have p3 := X3'.out.cell (j := 3) rfl
    have p4 := X3'.out.cell (j := 4) rfl
    have p5 := X3'.out.cell (j := 5) rfl
    have p6 := X3'.out.cell (j := 6) rfl
    have p7 := X3'.out.cell (j := 7) rfl
    have lp := X3'.out.lt
    go_wp2_with fail
    have HV6 := Lib.hid (show w5.heap.size + 1 = (w5.alloc (.cells #[.int .i64 0, .int .i64 0, .int .i64 0, .int .i64 0, .slice none 0 0, .slice Bw nw dw, .slice none 0 0, .slice none 0 0] 33)).heap.size by simp)
    generalize hb6 : w5.heap.size = b6 at *
    generalize w5.alloc (.cells #[.int .i64 0, .int .i64 0, .int .i64 0, .int .i64 0, .slice none 0 0, .slice Bw nw dw, .slice none 0 0, .slice none 0 0] 33) = W6 at *
    clear p0 p1 p2 p3 p4 p5 p6 p7 lp; clear hb6
    have hW6 : V0.heap.size ≤ W6.heap.size := by have := HV6.out; have := hb6l.out; omega
    refine (CQ.out _ _ _ _ _ GO.out.v (SV.out.up U34.out)).mono ?_; rintro x w7 ⟨rfl, u7⟩
    replace U34 := Lib.hid (U34.out.trans u7)
    replace X4 := Lib.hid (X4.out.up u7)
    replace X6 := Lib.hid (X6.out.up u7)
    replace GO := Lib.hid (GO.out.up u7)
    replace VX := Lib.hid (VX.out.up u7)
    replace SZ1 := Lib.hid (SZ1.out.ints u7.ints)
    replace SZ2 := Lib.hid (SZ2.out.ints u7.ints)
    have hW7 : V0.heap.size ≤ w7.heap.size := by have := u7.size; omega
    have B7 := Lib.hid (B3.out.up U34.out)
    have U7 := Lib.hid (U3.out.trans U34.out)
    clear u7
    go_wp2_with fail
    have HB := And.intro B7.out.lt (And.intro X4.out.lt (And.intro B7.out.c0 (And.intro B7.out.c1 (And.intro B7.out.c2 (And.intro X4.out.c0 (And.intro X4.out.c1 X4.out.c2))))))
    have HH := Lib.hid HB
    obtain ⟨l0, l1, q0, q1, q2, r0, r1, r2⟩ := HB
    have ud := (Up.refl w7).drew
    go_region_held3 (fun w' => b3 < w'.heap.size ∧ b10 < w'.heap.size ∧ w'.cell? ⟨b3, 0, none⟩ = some (.slice A n c) ∧ w'.cell? ⟨b3, 1, none⟩ = some (.slice B k d) ∧ w'.cell? ⟨b3, 2, none⟩ = some (.int .i64 til) ∧ w'.cell? ⟨b10, 0, none⟩ = some (.slice (some ⟨g1, 0, none⟩) n n) ∧ w'.cell? ⟨b10, 1, none⟩ = some (.slice (some ⟨g2, 0, none⟩) k k) ∧ w'.cell? ⟨b10, 2, none⟩ = some (.int .i64 til))
      (first | (exact HH.out) | (exact two_up uF (by assumption)) | (exact two_up uE (by assumption)))
      (first
        | (go_at_call 12; refine (CT.out _ (U7.out.trans (Up.refl _).drew) SH.out).mono ?_; rintro x wE ⟨g5, g6, rfl, hg5, hg6, o5, o6, uE⟩; have VE := Lib.hid (NewMdl.v o5 o6 hk); clear o5 o6)
        | (go_at_call 15; refine (CE.out _ n n _ k k _ n n _ k k _ (VX.out.up ((Up.refl _).drew.trans uE)) VE.out SH.out.fit).mono ?_; rintro x wF ⟨rfl, uF⟩))
    have u8 := ((Up.refl w7).drew.trans uE).trans uF
    replace U34 := Lib.hid (U34.out.trans u8)
    replace X4 := Lib.hid (X4.out.up u8)
    replace X6 := Lib.hid (X6.out.up u8)
    replace GO := Lib.hid (GO.out.up u8)
    replace SZ1 := Lib.hid (SZ1.out.ints u8.ints)
    replace SZ2 := Lib.hid (SZ2.out.ints u8.ints)
    have hW8 : V0.heap.size ≤ wF.heap.size := by have := u8.size; omega
    clear u8 uE uF ud l0 l1 q0 q1 q2 r0 r1 r2 VE VX HH B7 U7; obtain ⟨q0, q1, q2⟩ := And.intro X4.out.c0 (And.intro X4.out.c1 X4.out.c2)
    have hb6 : V0.heap.size ≤ b6 := hb6l.out
    go_wp2_with fail
    refine (markMdl_any W3.heap.size b10 g1 g2 n n k k til _ hn6 hk6 SZ1.out SZ2.out (by omega)).mono ?_; rintro x w8 ⟨mz, rfl, hmz0, hmz1, m8⟩
    replace X6 := Lib.hid (X6.out.ints m8 (.inr (by omega)))
    replace GO := Lib.hid (GO.out.ints m8 (by omega))
    replace U34 := Lib.hid (m8.up U34.out (Nat.le_refl _))
    have hW9 : V0.heap.size ≤ w8.heap.size := by have := m8.size; omega
    have jm : ¬ mz < 0 := by omega
    clear m8 q0 q1 q2 SZ1 SZ2 X4
    replace X3' := Lib.hid (X3.out.up U34.out)
    have p0 := X3'.out.cell (j := 0) rfl
    have p1 := X3'.out.cell (j := 1) rfl
    have p2 := X3'.out.cell (j := 2) rfl
    have p3 := X3'.out.cell (j := 3) rfl
    have p4 := X3'.out.cell (j := 4) rfl
    have p5 := X3'.out.cell (j := 5) rfl
    have p6 := X3'.out.cell (j := 6) rfl
    have p7 := X3'.out.cell (j := 7) rfl
    have lp := X3'.out.lt
    have q0 := X6.out.cell (j := 0) rfl
    have q1 := X6.out.cell (j := 1) rfl
    have q2 := X6.out.cell (j := 2) rfl
    have q3 := X6.out.cell (j := 3) rfl
    have q4 := X6.out.cell (j := 4) rfl
    have q5 := X6.out.cell (j := 5) rfl
    have q6 := X6.out.cell (j := 6) rfl
    have q7 := X6.out.cell (j := 7) rfl
    have lq := X6.out.lt
    go_wp2_with fail
    refine (CQ.out _ _ _ _ _ GO.out.v (SV.out.up U34.out)).mono ?_; rintro x w9 ⟨rfl, u9⟩
    replace U34 := Lib.hid (U34.out.trans u9)
    replace X6 := Lib.hid (X6.out.up u9)
    replace GO := Lib.hid (GO.out.up u9)
    have hW10 : V0.heap.size ≤ w9.heap.size := by have := u9.size; omega
    clear p0 p1 p2 p3 p4 p5 p6 p7 q0 q1 q2 q3 q4 q5 q6 q7 lp lq; clear u9 X3'
    have q0 := X6.out.cell (j := 0) rfl
    have q1 := X6.out.cell (j := 1) rfl
    have q2 := X6.out.cell (j := 2) rfl
    have q3 := X6.out.cell (j := 3) rfl
    have q4 := X6.out.cell (j := 4) rfl
    have q5 := X6.out.cell (j := 5) rfl
    have q6 := X6.out.cell (j := 6) rfl
    have q7 := X6.out.cell (j := 7) rfl
    have lq := X6.out.lt
    go_wp2_with fail
    refine (markHs_any V0.heap.size Bw nw dw _ (by omega) GO.out.m).mono ?_; rintro x w10 ⟨rfl, hheld, hup, hbx, hsz⟩
    have HE := Lib.hid hheld
    replace U34 := Lib.hid (hup _ U34.out (by omega) hW10)
    replace X6 := Lib.hid (hbx _ _ _ X6.out NE.out)
    have hW11 : V0.heap.size ≤ w10.heap.size := by omega
    clear q0 q1 q2 q3 q4 q5 q6 q7 lq; clear hheld hup hbx hsz GO NE
    have q0 := X6.out.cell (j := 0) rfl
    have q1 := X6.out.cell (j := 1) rfl
    have q2 := X6.out.cell (j := 2) rfl
    have q3 := X6.out.cell (j := 3) rfl
    have q4 := X6.out.cell (j := 4) rfl
    have q5 := X6.out.cell (j := 5) rfl
    have q6 := X6.out.cell (j := 6) rfl
    have q7 := X6.out.cell (j := 7) rfl
    have lq := X6.out.lt
    have B7 := Lib.hid (B3.out.up U34.out)
    have U7 := Lib.hid (U3.out.trans U34.out)
    obtain ⟨r0, r1, r2⟩ := And.intro B7.out.c0 (And.intro B7.out.c1 B7.out.c2)
    go_wp2_with fail
    have jq : ¬ (1 + 7 * (nw : Int)) < 0 := by omega
    refine (heldHs_any Bw nw dw w10 (by omega) HE.out).mono ?_; rintro x w11 ⟨rfl, u11⟩
    replace HE := Lib.hid (HE.out.up u11)
    replace U34 := Lib.hid (U34.out.trans u11)
    replace U7 := Lib.hid (U7.out.trans u11)
    replace X6 := Lib.hid (X6.out.up u11)
    clear q0 q1 q2 q3 q4 q5 q6 q7 lq; clear u11 r0 r1 r2 B7
    have B7 := Lib.hid (B3.out.up U34.out)
    obtain ⟨r0, r1, r2⟩ := And.intro B7.out.c0 (And.intro B7.out.c1 B7.out.c2)
    go_wp2_with fail
    refine (CT.out _ U7.out SH.out).mono ?_; rintro x w12 ⟨g5, g6, rfl, hg5, hg6, o5, o6, u12⟩
    have V12 := Lib.hid (NewMdl.v o5 o6 hk)
    clear o5 o6 hg5 hg6 r0 r1 r2 B7
    go_wp2_with fail
    refine (CI.out _ _ _ _ _ _ _ V12.out).mono ?_; rintro x w13 ⟨v, rfl, hres, u13⟩; obtain ⟨Dw, ew, rfl, own⟩ := OP.out _ _ _ hres
    have ua := (Up.refl w13).alloc (.cells #[.int .i64 0, .int .i64 0, .int .i64 0, .int .i64 0, .slice none 0 0, .slice Dw nw ew, .slice none 0 0, .slice none 0 0] 33)
    have u14 := (u12.trans u13).trans ua
    have DV := Lib.hid (own.v.up ua)
    replace HE := Lib.hid (HE.out.up u14)
    replace U34 := Lib.hid (U34.out.trans u14)
    replace X6 := Lib.hid (X6.out.up u14)
    clear hres own u12 u13 u14 ua V12
    have X3' := Lib.hid (X3.out.up U34.out)
    have p0 := X3'.out.cell (j := 0) rfl
    have p1 := X3'.out.cell (j := 1) rfl
    have p2 := X3'.out.cell (j := 2) rfl
    have p3 := X3'.out.cell (j := 3) rfl
    have p4 := X3'.out.cell (j := 4) rfl
    have p5 := X3'.out.cell (j := 5) rfl
    have p6 := X3'.out.cell (j := 6) rfl
    have p7 := X3'.out.cell (j := 7) rfl
    have lp := X3'.out.lt
    go_wp2_with fail
    generalize hb14 : w13.heap.size = b14 at *
    generalize w13.alloc (.cells #[.int .i64 0, .int .i64 0, .int .i64 0, .int .i64 0, .slice none 0 0, .slice Dw nw ew, .slice none 0 0, .slice none 0 0] 33) = W14 at *
    clear p0 p1 p2 p3 p4 p5 p6 p7 lp; clear hb14 X3'; refine (CQ.out _ _ _ _ _ DV.out (SV.out.up U34.out)).mono ?_; rintro x w15 ⟨rfl, u15⟩
    replace HE := Lib.hid (HE.out.up u15)
    replace U34 := Lib.hid (U34.out.trans u15)
    replace X6 := Lib.hid (X6.out.up u15)
    clear u15 DV
    have q0 := X6.out.cell (j := 0) rfl
    have q1 := X6.out.cell (j := 1) rfl
    have q2 := X6.out.cell (j := 2) rfl
    have q3 := X6.out.cell (j := 3) rfl
    have q4 := X6.out.cell (j := 4) rfl
    have q5 := X6.out.cell (j := 5) rfl
    have q6 := X6.out.cell (j := 6) rfl
    have q7 := X6.out.cell (j := 7) rfl
    have lq := X6.out.lt
    go_wp2_with fail
    refine (heldHs_any Bw nw dw w15 (by omega) HE.out).mono ?_; rintro x w16 ⟨rfl, u16⟩
    replace U7 := Lib.hid (U3.out.trans (U34.out.trans u16))
    clear q0 q1 q2 q3 q4 q5 q6 q7 lq; clear u16; go_wp2; go_ret
    exact ⟨rfl, U7.out⟩
end Go.Proofs.Ytipjcjjjkkaigaa

namespace Go.Proofs.Ytipjcjjjkkaigaa
set_option maxRecDepth 100000
open Go.ChangeShapes Go.WideShapes Go.ChangeAt Go.RowKit Go.Joins Go.Deep
set_option linter.unusedVariables false
section
variable {H : Type} {enc : TypeId × Value → H} {P : Program} {w : World} {base : Nat} {spare : Nat → Bool} {held : Bool}
theorem open_agg3 {r : Reach} {b0 : Nat} {t : TypeId} {f0 f1 f2 : Field} {v : Value} {d : DataW H} {p : List MemPlace} (hs : P.underlying t = some (.struct #[f0, f1, f2])) (hone : oneCellFields P #[f0, f1, f2] = true) (hC : P.cellsOf t = 3)
    (hv : Value.okWide P w r b0 t v) (h : DataW.Trod enc P w base spare held t v d p) :
    ∃ (v0 v1 v2 : Value) (y0 y1 y2 : DataW H × List MemPlace) (n : Nat), v = .agg #[v0, v1, v2] ∧ d = .agg [y0.1, y1.1, y2.1] ∧ p = y0.2 ++ (y1.2 ++ y2.2) ∧
      DataW.trod enc P w base spare held n f0.type [v0] = some y0 ∧ DataW.trod enc P w base spare held n f1.type [v1] = some y1 ∧ DataW.trod enc P w base spare held n f2.type [v2] = some y2 := by
  obtain ⟨cs, rfl, hsz⟩ := okWide_struct hs hv; obtain ⟨l⟩ := cs
  match l, hsz.trans hC with
  | [c0, c1, c2], _ =>
    obtain ⟨fuel, hf⟩ := h; obtain ⟨xs, n, _, hx, _, hlen, hg⟩ := DataW.trod_struct hs hf; obtain ⟨o0, k0⟩ := hone_of hone 0 f0 rfl; obtain ⟨o1, k1⟩ := hone_of hone 1 f1 rfl; obtain ⟨o2, k2⟩ := hone_of hone 2 f2 rfl
    match xs, hlen with
    | [y0, y1, y2], _ =>
      simp only [Prod.mk.injEq] at hx
      exact ⟨c0, c1, c2, y0, y1, y2, n, rfl, by simpa using hx.1, by simpa using hx.2, by simpa [Value.cells, o0, k0] using hg 0 f0 rfl, by simpa [Value.cells, o1, k1] using hg 1 f1 rfl, by simpa [Value.cells, o2, k2] using hg 2 f2 rfl⟩
end
end Go.Proofs.Ytipjcjjjkkaigaa

namespace Go.Proofs.Ytipjcjjjkkaigaa
set_option maxRecDepth 100000
open Go.ChangeShapes Go.WideShapes Go.ChangeAt Go.RowKit Go.Joins Go.Deep
set_option linter.unusedVariables false
theorem cells225 : Try.prog.cellsOf 225 = 6 := by kernel_rfl
theorem hone225 : ∃ fs : Array Field, Try.prog.underlying 225 = some (.struct fs) ∧ oneCellFields Try.prog fs = true ∧ fs.size = 6 ∧ fs.map (·.type) = #[3, 3, 3, 3, 3, 3] :=
  ⟨_, Try.underlying225, by kernel_rfl, rfl, by simp⟩
/-- A list of sends that came in. -/
theorem open_sends {H : Type} {enc : TypeId × Value → H} {w : World} {base : Nat} {spare : Nat → Bool} {held : Bool} {A : Option Addr} {n cap : Nat} {d : DataW H} {p : List MemPlace}
    (h : DataW.Trod enc Try.prog w base spare held 183 (.slice A n cap) d p) : ∃ es : List Evt, Evs w A n es ∧ (∀ e ∈ es, e.ok) ∧ n ≤ 9223372036854775807 := by
  obtain ⟨fuel, hf⟩ := h; obtain ⟨fs, hu, hone, hsz, hty⟩ := hone225
  rcases open_slice_fields Try.underlying183 hu hone (by rw [hsz]; exact cells225) hf with ⟨hcs, _⟩ | ⟨a, len, c, m, D, Pl, hcs, _, hl, hm, hmm, _, hi⟩
  · simp [Value.cells] at hcs
    obtain ⟨rfl, rfl, rfl⟩ := hcs
    exact ⟨[], Evs.none_ w, (fun e he => by cases he), by omega⟩
  · simp [Value.cells] at hcs
    obtain ⟨rfl, rfl, rfl⟩ := hcs
    have hnm : n ≤ m := by rw [hmm]; split <;> omega
    have one : ∀ i, i < n → ∃ e : Evt, e.ok ∧ ∀ j, j < 6 → w.cell? (a.add (i * 6 + j)) = some (.int .i64 (e.l.getD j 0)) := by
      intro i hin; obtain ⟨ys, k, _, _, _, hj⟩ := hi i (by omega)
      have f : ∀ j, j < 6 → ∃ z : Int, I64 z ∧ w.cell? (a.add (i * 6 + j)) = some (.int .i64 z) := by
        intro j hj6
        have hjs : j < fs.size := by omega
        have htj : (fs[j]'hjs).type = 3 := by
          have e1 : (fs.map (·.type))[j]? = some (3) := by
            rw [hty]
            have h6 : j = 0 ∨ j = 1 ∨ j = 2 ∨ j = 3 ∨ j = 4 ∨ j = 5 := by omega
            rcases h6 with rfl | rfl | rfl | rfl | rfl | rfl <;> rfl
          simpa [hjs] using e1
        obtain ⟨v, y, hcell, _, ht⟩ := hj j (fs[j]'hjs) (Array.getElem?_eq_getElem hjs); rw [htj] at ht; obtain ⟨z, e, _, wz⟩ := DataW.trod_int Try.underlying3 ht; simp only [List.cons.injEq, and_true] at e; subst e; rw [hsz] at hcell
        exact ⟨z, i64_of_wf wz, hcell⟩
      obtain ⟨z0, w0, g0⟩ := f 0 (by omega); obtain ⟨z1, w1, g1⟩ := f 1 (by omega); obtain ⟨z2, w2, g2⟩ := f 2 (by omega); obtain ⟨z3, w3, g3⟩ := f 3 (by omega); obtain ⟨z4, w4, g4⟩ := f 4 (by omega); obtain ⟨z5, w5, g5⟩ := f 5 (by omega); refine ⟨⟨z0, z1, z2, z3, z4, z5⟩, ⟨w0, w1, w2, w3, w4, w5⟩, fun j hj6 => ?_⟩
      have h6 : j = 0 ∨ j = 1 ∨ j = 2 ∨ j = 3 ∨ j = 4 ∨ j = 5 := by omega
      rcases h6 with rfl | rfl | rfl | rfl | rfl | rfl
      · exact g0
      · exact g1
      · exact g2
      · exact g3
      · exact g4
      · exact g5
    obtain ⟨es, hlen, hes⟩ := list_of n one
    have hmax : n ≤ 9223372036854775807 := by unfold maxLen at hm; omega
    refine ⟨es, ⟨hlen, fun hn => ?_⟩, (fun e he => ?_), hmax⟩
    · obtain ⟨b, off, spot⟩ := a
      have c0 := (hes 0 hn).2 0 (by omega)
      have hspot : spot = none := by simpa [Addr.add] using World.cell?_spot c0
      subst hspot
      have c0' : w.cell? ⟨b, off, none⟩ = some (.int .i64 ((es.getD 0 default).l.getD 0 0)) := by simpa [Addr.add] using c0
      have add : ∀ k, (⟨b, off, none⟩ : Addr).add k = ⟨b, off + k, none⟩ := fun k => by
        unfold Addr.add
        split
        · rename_i h0; subst h0; rfl
        · rfl
      refine ⟨b, off, rfl, block_lt c0', fun i hin => ?_⟩
      have g := (hes i hin).2
      simp only [add] at g
      generalize es.getD i default = e at g
      obtain ⟨z0, z1, z2, z3, z4, z5⟩ := e
      exact ⟨g 0 (by omega), by have := g 1 (by omega); simpa [Nat.add_assoc, Evt.l] using this, by have := g 2 (by omega); simpa [Nat.add_assoc, Evt.l] using this, by have := g 3 (by omega); simpa [Nat.add_assoc, Evt.l] using this, by have := g 4 (by omega); simpa [Nat.add_assoc, Evt.l] using this, by have := g 5 (by omega); simpa [Nat.add_assoc, Evt.l] using this⟩
    · obtain ⟨i, hi2, rfl⟩ := List.getElem_of_mem he
      have := (hes i (by omega)).1
      simpa [hi2] using this
theorem cells185 : Try.prog.cellsOf 185 = 5 := by kernel_rfl
theorem hone185 : ∃ fs : Array Field, Try.prog.underlying 185 = some (.struct fs) ∧ oneCellFields Try.prog fs = true ∧ fs.size = 5 ∧ fs.map (·.type) = #[3, 3, 3, 3, 183] :=
  ⟨_, Try.underlying185, by kernel_rfl, rfl, by simp⟩
theorem add_plain (b off k : Nat) : (⟨b, off, none⟩ : Addr).add k = ⟨b, off + k, none⟩ := by
  unfold Addr.add
  split
  · rename_i h0; subst h0; rfl
  · rfl
/-- Rules that came in. -/
theorem open_rules {H : Type} {enc : TypeId × Value → H} {w : World} {base : Nat} {spare : Nat → Bool} {held : Bool} {v : Value} {fuel : Nat} {y : DataW H × List MemPlace}
    (hf : DataW.trod enc Try.prog w base spare held fuel 138 [v] = some y) : ∃ A n c rs, v = .slice A n c ∧ Rules w A n rs := by
  obtain ⟨fs, hu, hone, hsz, hty⟩ := hone185
  rcases open_slice_fields Try.underlying138 hu hone (by rw [hsz]; exact cells185) hf with ⟨hcs, _⟩ | ⟨a, len, c, m, D, Pl, hcs, _, hl, hm, hmm, _, hi⟩
  · simp only [List.cons.injEq, and_true] at hcs
    exact ⟨none, 0, 0, [], hcs, rfl, by omega, fun h => absurd h (by omega)⟩
  · simp only [List.cons.injEq, and_true] at hcs
    have hnm : len ≤ m := by rw [hmm]; split <;> omega
    have one : ∀ i, i < len → ∃ r : Rule, (∃ z0 z1 z2 z3 A n c, (w.cell? (a.add (i * 5)) = some (.int .i64 z0) ∧ w.cell? (a.add (i * 5 + 1)) = some (.int .i64 z1) ∧ w.cell? (a.add (i * 5 + 2)) = some (.int .i64 z2) ∧ w.cell? (a.add (i * 5 + 3)) = some (.int .i64 z3) ∧ w.cell? (a.add (i * 5 + 4)) = some (.slice A n c)) ∧ n ≤ 9223372036854775807 ∧ Evs w A n r.sends ∧ r.kd = z0 ∧ r.a = z1 ∧ r.b = z2 ∧ r.c = z3) := by
      intro i hin; obtain ⟨ys, k, _, _, _, hj⟩ := hi i (by omega); rw [hsz] at hj
      have ty : ∀ j (h : j < fs.size), (fs[j]'h).type = (#[3, 3, 3, 3, 183] : Array TypeId)[j]! := by
        intro j h
        have e1 : (fs.map (·.type))[j]! = (fs[j]'h).type := by simp [h]
        rw [← e1, hty]
      have f : ∀ j, j < 4 → ∃ z : Int, w.cell? (a.add (i * 5 + j)) = some (.int .i64 z) := by
        intro j hj4
        have hjs : j < fs.size := by omega
        obtain ⟨v, y, hcell, _, ht⟩ := hj j (fs[j]'hjs) (Array.getElem?_eq_getElem hjs); rw [ty j hjs] at ht
        have e : (#[3, 3, 3, 3, 183] : Array TypeId)[j]! = 3 := by
          have h4 : j = 0 ∨ j = 1 ∨ j = 2 ∨ j = 3 := by omega
          rcases h4 with rfl | rfl | rfl | rfl <;> rfl
        rw [e] at ht; obtain ⟨z, e, _, wz⟩ := DataW.trod_int Try.underlying3 ht; simp only [List.cons.injEq, and_true] at e; subst e
        exact ⟨z, hcell⟩
      obtain ⟨z0, g0⟩ := f 0 (by omega); obtain ⟨z1, g1⟩ := f 1 (by omega); obtain ⟨z2, g2⟩ := f 2 (by omega); obtain ⟨z3, g3⟩ := f 3 (by omega)
      have hjs : 4 < fs.size := by omega
      obtain ⟨v4, y4, hcell, _, ht⟩ := hj 4 (fs[4]'hjs) (Array.getElem?_eq_getElem hjs); rw [ty 4 hjs] at ht
      have ht : DataW.trod enc Try.prog w base spare held k 183 [v4] = some y4 := ht
      have hv : ∃ A n c, v4 = .slice A n c := by
        rcases open_slice Try.underlying183 ht with ⟨h, _⟩ | ⟨a, l, c, _, _, _, _, h, _⟩
        · exact ⟨none, 0, 0, by simpa using h⟩
        · exact ⟨some a, l, c, by simpa using h⟩
      obtain ⟨A, n, c, rfl⟩ := hv; obtain ⟨es, he, _, hn⟩ := open_sends (d := y4.1) (p := y4.2) (A := A) (n := n) (cap := c) ⟨k, by simpa [Value.cells] using ht⟩
      exact ⟨⟨z0, z1, z2, z3, es⟩, z0, z1, z2, z3, A, n, c, ⟨g0, g1, g2, g3, hcell⟩, hn, he, rfl, rfl, rfl, rfl⟩
    obtain ⟨rs, hlen, hrs⟩ := list_of len one
    have hmax : len ≤ 9223372036854775807 := by unfold maxLen at hm; omega
    refine ⟨some a, len, c, rs, hcs, hlen, hmax, fun hn => ?_⟩; obtain ⟨z0, z1, z2, z3, A, n, c', ⟨c0, _⟩, _⟩ := hrs 0 hn; obtain ⟨b, off, spot⟩ := a
    have hspot : spot = none := by simpa [Addr.add] using World.cell?_spot c0
    subst hspot; simp only [add_plain] at hrs c0; refine ⟨b, off, rfl, block_lt c0, fun i hin => ?_⟩; obtain ⟨z0, z1, z2, z3, A, n, c', ⟨k0, k1, k2, k3, k4⟩, hn', he, e0, e1, e2, e3⟩ := hrs i hin; subst e0 e1 e2 e3
    exact ⟨A, n, c', ⟨k0, by simpa [Nat.add_assoc] using k1, by simpa [Nat.add_assoc] using k2, by simpa [Nat.add_assoc] using k3, by simpa [Nat.add_assoc] using k4⟩, hn', he⟩
/-- Rows of rules that came in. -/
theorem open_rulz {H : Type} {enc : TypeId × Value → H} {w : World} {base : Nat} {spare : Nat → Bool} {held : Bool} {v : Value} {fuel : Nat} {y : DataW H × List MemPlace}
    (hf : DataW.trod enc Try.prog w base spare held fuel 22 [v] = some y) : ∃ A n c rss, v = .slice A n c ∧ Rulz w A n rss := by
  rcases open_slice1 Try.underlying22 (by kernel_rfl) hf with ⟨hcs, _⟩ | ⟨a, len, c, m, k, V, D, Pl, hcs, _, hl, hm, hmm, _, hi⟩
  · simp only [List.cons.injEq, and_true] at hcs
    exact ⟨none, 0, 0, [], hcs, rfl, by omega, fun h => absurd h (by omega)⟩
  · simp only [List.cons.injEq, and_true] at hcs
    have hnm : len ≤ m := by rw [hmm]; split <;> omega
    have one : ∀ i, i < len → ∃ rs : List Rule, ∃ A n c, w.cell? (a.add i) = some (.slice A n c) ∧ Rules w A n rs := by
      intro i hin; obtain ⟨hc, ht⟩ := hi i (by omega); obtain ⟨A, n, c, rs, hv, hr⟩ := open_rules ht
      exact ⟨rs, A, n, c, hv ▸ hc, hr⟩
    obtain ⟨rss, hlen, hrs⟩ := list_of len one
    have hmax : len ≤ 9223372036854775807 := by unfold maxLen at hm; omega
    refine ⟨some a, len, c, rss, hcs, hlen, hmax, fun hn => ?_⟩; obtain ⟨A, n, c', c0, _⟩ := hrs 0 hn; obtain ⟨b, off, spot⟩ := a
    have hspot : spot = none := by simpa [Addr.add] using World.cell?_spot c0
    subst hspot; simp only [add_plain] at hrs c0
    exact ⟨b, off, rfl, block_lt c0, fun i hin => hrs i hin⟩
theorem cells25 : Try.prog.cellsOf 25 = 3 := by kernel_rfl
theorem open_mdl {H : Type} {enc : TypeId × Value → H} {w : World} {base b0 : Nat} {spare : Nat → Bool} {held : Bool} {r : Reach} {v : Value} {d : DataW H} {p : List MemPlace}
    (hv : Value.okWide Try.prog w r b0 25 v) (h : DataW.Trod enc Try.prog w base spare held 25 v d p) :
    ∃ m : Mdl, ∃ A n c B k d, v = .agg #[.slice A n c, .slice B k d, .int .i64 m.til] ∧ MdlV w A n B k m := by
  obtain ⟨c0, c1, c2, y0, y1, y2, f, rfl, rfl, rfl, h0, h1, h2⟩ := open_agg3 Try.underlying25 (by kernel_rfl) cells25 hv h; obtain ⟨A, n, c, rss, rfl, hr⟩ := open_rulz h0
  have hv1 : ∃ B k d, c1 = .slice B k d := by
    rcases open_slice Try.underlying23 h1 with ⟨h, _⟩ | ⟨a, l, c, _, _, _, _, h, _⟩
    · exact ⟨none, 0, 0, by simpa using h⟩
    · exact ⟨some a, l, c, by simpa using h⟩
  obtain ⟨B, k, d, rfl⟩ := hv1; obtain ⟨es, he, _, hn⟩ := open_evts (d := y1.1) (p := y1.2) (A := B) (n := k) (cap := d) ⟨f, by simpa [Value.cells] using h1⟩; obtain ⟨z, e2, -, _⟩ := DataW.trod_int Try.underlying3 h2; simp only [List.cons.injEq, and_true] at e2; subst e2
  exact ⟨⟨rss, es, z⟩, A, n, c, B, k, d, rfl, ⟨hr, he, hn⟩⟩
end Go.Proofs.Ytipjcjjjkkaigaa

namespace Go.Proofs.Ytipjcjjjkkaigaa.fnExactHstNew
set_option maxRecDepth 100000
open Go.ChangeShapes Go.WideShapes Go.ChangeAt Go.RowKit Go.Joins Go.Deep
set_option linter.unusedVariables false
set_option maxRecDepth 100000 in
theorem lifted (os : Os) (started : os.Started) (H : Type) (enc : TypeId × Value → H) :
    ReturnsInHanded {} Try.checked os 3 .any (Rows.fnExactHstNewSpec.pre6 enc Try.prog Try.f3 Rows.fnExactHstNewRow.domain false) (Rows.fnExactHstNewSpec.post enc Try.prog Try.f3 false true false false) := by
  refine returnsInHanded_of_change (C := Try.checked) own started (by kernel_rfl) Try.func3
    (ChangeSpec.witness6 (enc := enc) (C := Try.checked) false ⟨#[], #[.agg #[.slice none 0 0, .slice none 0 0, .int .i64 0], .int .i64 0], []⟩ 8 (by kernel_rfl) (by kernel_rfl) (by kernel_rfl) (by kernel_rfl)) ?_
  intro W base args ds gs before hval0 hW hcnd _
  have hval : ∀ (j : Nat) t v, Try.f3.params[j]? = some t → args[j]? = some v → Value.okWide Try.prog W .any base t v := hval0
  have hW' := hW
  obtain ⟨p, q, hA0, hV, rfl, hfz, hnd⟩ := hW
  have hA : DataW.TrodAll enc Try.prog W 0 (fun _ => true) true Try.f3.params.toList args.toList ds p := hA0
  rw [Try.params3] at hA hval; obtain ⟨v0, vs0, d0, ds0, p0, q0, hargs, rfl, rfl, h0, r0⟩ := trodAll_cons hA; obtain ⟨v1, vs1, d1, ds1, p1, q1, rfl, rfl, rfl, h1, r1⟩ := trodAll_cons r0; obtain ⟨rfl, rfl, rfl⟩ := trodAll_nil r1
  obtain rfl : args = #[v0, v1] := by cases args; simp_all
  obtain ⟨rfl, rfl⟩ := trodVars_none hV
  have k0 := h0
  have lt0 : ∀ x ∈ p0, x.block < W.heap.size := by obtain ⟨m, hm⟩ := k0; exact DataW.trod_lt m _ _ _ hm
  obtain ⟨a0, w0⟩ := open_mdl (hval 0 25 v0 rfl rfl) h0
  have k1 := h1
  have lt1 : ∀ x ∈ p1, x.block < W.heap.size := by obtain ⟨m, hm⟩ := k1; exact DataW.trod_lt m _ _ _ hm
  obtain ⟨a1, rfl, rfl, rfl, w1'⟩ := open_int Try.underlying3 (hval 1 3 v1 rfl rfl) h1
  have w1 := i64_of_wf w1'
  clear hA0 hval0
  refine (walkEhsn v0 a0 w0 a1 w1).mono fun e W' ⟨he, bel⟩ => ?_
  subst he
  exact ⟨_, rfl, _, _, _, [], _, [], hW', trodAll_mk1 (shut_bool Try.underlying4 _), (trodAll_cons_mk (Below.trod laidOut (by kernel_rfl) (of_decide_eq_true (by kernel_rfl)) k0 bel lt0) (trodAll_cons_mk (Below.trod laidOut (by kernel_rfl) (of_decide_eq_true (by kernel_rfl)) k1 bel lt1) trodAll_mk0)), rfl, bel.frame _, fun h => by cases h⟩
theorem over : Rows.fnExactHstNewRow.holds Try.pinned (OpenSpec.ofChange Rows.fnExactHstNewSpec) :=
  OpenClaim.holds_of_wide 3 Try.f3 rfl rfl rfl rfl rfl rfl rfl ⟨rfl, rfl, rfl, rfl, rfl⟩ rfl rfl rfl rfl rfl (by kernel_rfl) Try.func3 (by kernel_rfl)
    (of_decide_eq_true (by kernel_rfl)) (by unfold Func.isWrapper; first | (rw [if_pos (by decide +kernel)]; kernel_rfl) | (rw [if_neg (by decide +kernel)]; exact ⟨rfl, rfl⟩))
    (fun os started H enc _ => lifted os started H enc)
theorem proved : Rows.FnExactHstNewSaid := over
end Go.Proofs.Ytipjcjjjkkaigaa.fnExactHstNew

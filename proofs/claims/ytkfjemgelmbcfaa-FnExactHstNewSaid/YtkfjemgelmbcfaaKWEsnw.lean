/-
  What FnExactSeqNew returns, in one sentence: true, with new blocks alone; for every model that lies in memory.
-/
import Derived.Test.YtkfjemgelmbcfaaKSqZ
import Derived.Test.YtkfjemgelmbcfaaKZ3
import Derived.Test.YtkfjemgelmbcfaaKV
import Derived.Deep.RegionHeld3
namespace Go.Proofs.Ytkfjemgelmbcfaa
set_option maxRecDepth 100000
open Go.RowKit

/-- What it is over. -/
structure SqOwn (w : World) (lo : Nat) (Ac : Option Addr) (nc : Nat) (Aw : Option Addr) (nw : Nat) (Al : Option Addr) (nl : Nat) (s : Sq) : Prop where
  v : SqV w Ac nc Aw nw Al nl s
  m1 : Mkb w lo Ac nc 3 62
  m2 : Mkb w lo Aw nw 6 50
  m3 : Mkb w lo Al nl 7 171
theorem SqOwn.up {w w' : World} {lo : Nat} {Ac Aw Al : Option Addr} {nc nw nl : Nat} {s : Sq} (h : SqOwn w lo Ac nc Aw nw Al nl s) (u : Up w w') : SqOwn w' lo Ac nc Aw nw Al nl s := ⟨h.v.up u, h.m1.up u, h.m2.up u, h.m3.up u⟩
theorem Mkb.own {w : World} {lo n c : Nat} {A : Option Addr} {es : List Evt} (h : w.ownsRow lo 50 6 (.slice A n c) n (flat es)) : Mkb w lo A n 6 50 := fun hn => by
  obtain ⟨g, rfl, hg, ho⟩ := own_own h hn
  rcases h.2 with ⟨_, h0⟩ | ⟨g', cap, cur, hv, _, hh, _⟩
  · omega
  · injection hv with hA _ _
    injection hA with hA
    injection hA with hA _ _
    subst hA
    refine ⟨g, cur, rfl, hg, ⟨ho.2.1, fun j hj => ?_⟩, hh⟩
    obtain ⟨c0, c1, c2, c3, c4, c5⟩ := ho.2.2.1 (j / 6) (by omega)
    refine ⟨?_, ho.2.2.2 j hj⟩
    have e : j % 6 = 0 ∨ j % 6 = 1 ∨ j % 6 = 2 ∨ j % 6 = 3 ∨ j % 6 = 4 ∨ j % 6 = 5 := by omega
    rcases e with e | e | e | e | e | e
    · exact ⟨_, by rw [show j = j / 6 * 6 by omega]; exact c0⟩
    · exact ⟨_, by rw [show j = j / 6 * 6 + 1 by omega]; exact c1⟩
    · exact ⟨_, by rw [show j = j / 6 * 6 + 2 by omega]; exact c2⟩
    · exact ⟨_, by rw [show j = j / 6 * 6 + 3 by omega]; exact c3⟩
    · exact ⟨_, by rw [show j = j / 6 * 6 + 4 by omega]; exact c4⟩
    · exact ⟨_, by rw [show j = j / 6 * 6 + 5 by omega]; exact c5⟩
theorem Mkb.ints {lo hi : Nat} {w w' : World} {l : Nat} {A : Option Addr} {n s t : Nat} (h : Mkb w l A n s t) (m : Ints lo hi w w') (hb : hi ≤ l) : Mkb w' l A n s t := fun hn => by
  obtain ⟨g, xs, hA, hl, ho, hh⟩ := h hn
  refine ⟨g, xs, hA, hl, ⟨Nat.lt_of_lt_of_le ho.1 m.size, fun j hj => (ho.2 j hj).ints m ho.1⟩, (m.block g ho.1 (.inr (by omega))).trans hh⟩
theorem SqOwn.ints {lo hi : Nat} {w w' : World} {l : Nat} {Ac Aw Al : Option Addr} {nc nw nl : Nat} {s : Sq} (h : SqOwn w l Ac nc Aw nw Al nl s) (m : Ints lo hi w w') (hb : hi ≤ l) : SqOwn w' l Ac nc Aw nw Al nl s := by
  refine ⟨⟨⟨h.v.comps.1, fun hn => ?_⟩, ⟨h.v.wait.1, fun hn => ?_⟩, ⟨h.v.log.1, fun hn => ?_⟩⟩, h.m1.ints m hb, h.m2.ints m hb, h.m3.ints m hb⟩
  · obtain ⟨b, off, hA, hlt, hc⟩ := h.v.comps.2 hn
    obtain ⟨g, _, hA', hl, _, _⟩ := h.m1 hn
    have : b = g := by rw [hA] at hA'; injection hA' with e; injection e
    subst this
    exact ⟨b, off, hA, Nat.lt_of_lt_of_le hlt m.size, fun i hi => (hc i hi).keep fun j => m.cells b j hlt (.inr (by omega))⟩
  · obtain ⟨b, off, hA, hlt, hc⟩ := h.v.wait.2 hn
    obtain ⟨g, _, hA', hl, _, _⟩ := h.m2 hn
    have : b = g := by rw [hA] at hA'; injection hA' with e; injection e
    subst this
    refine ⟨b, off, hA, Nat.lt_of_lt_of_le hlt m.size, fun i hi => ?_⟩
    obtain ⟨c0, c1, c2, c3, c4, c5⟩ := hc i hi
    have kc : ∀ j, w'.cell? ⟨b, j, none⟩ = w.cell? ⟨b, j, none⟩ := fun j => m.cells b j hlt (.inr (by omega))
    exact ⟨(kc _).trans c0, (kc _).trans c1, (kc _).trans c2, (kc _).trans c3, (kc _).trans c4, (kc _).trans c5⟩
  · obtain ⟨b, off, hA, hlt, hc⟩ := h.v.log.2 hn
    obtain ⟨g, _, hA', hl, _, _⟩ := h.m3 hn
    have : b = g := by rw [hA] at hA'; injection hA' with e; injection e
    subst this
    exact ⟨b, off, hA, Nat.lt_of_lt_of_le hlt m.size, fun i hi => (hc i hi).keep fun j => m.cells b j hlt (.inr (by omega))⟩
theorem SqRes.open_ {lo : Nat} {m : Mdl} {v : Value} {w : World} (h : SqRes lo m v w) :
    ∃ Ac cc Aw cw, v = .agg #[.slice Ac (sq0 m).comps.length cc, .slice Aw (sq0 m).wait.length cw, .slice none 0 0] ∧ SqOwn w lo Ac (sq0 m).comps.length Aw (sq0 m).wait.length none 0 (sq0 m) := by
  obtain ⟨vc, vw, rfl, hc, hw⟩ := h
  obtain ⟨_, Aw, cw, rfl, _, _⟩ := own_slice hw
  have hM3 : Mkb w lo none 0 7 171 := fun h => absurd h (by omega)
  have hE := own_evs hw
  have hM2 := Mkb.own hw
  have hl : (sq0 m).comps.length = (if mdlB m = true then m.rules.length else 0) := by simp [sq0]
  rcases hc with ⟨hk, rfl⟩ | ⟨g, rfl, hg, hh⟩
  · have hl0 : (sq0 m).comps.length = 0 := by rw [hl, hk]
    rw [hl0]
    exact ⟨none, 0, Aw, cw, rfl, ⟨⟨by rw [← hl0]; exact ⟨rfl, fun h => absurd h (by omega)⟩, hE, ⟨rfl, fun h => absurd h (by omega)⟩⟩, fun h => absurd h (by omega), hM2, hM3⟩⟩
  · rw [hl]
    refine ⟨some ⟨g, 0, none⟩, _, Aw, cw, rfl, ⟨⟨⟨hl, fun _ => ⟨g, 0, rfl, (Array.getElem?_eq_some_iff.1 hh).1, fun i hi => ?_⟩⟩, hE, ⟨rfl, fun h => absurd h (by omega)⟩⟩, fun _ => ⟨g, _, rfl, hg, ⟨(Array.getElem?_eq_some_iff.1 hh).1, fun j hj => ⟨⟨0, ?_⟩, ?_⟩⟩, hh⟩, hM2, hM3⟩⟩
    · have e : (sq0 m).comps.getD i default = ⟨0, 0, 0⟩ := by simp [sq0, List.getD, hi]
      rw [e]
      refine ⟨?_, ?_, ?_⟩
      · rw [cell_of_row _ _ _ _ _ _ hh]; exact zero_get _ _ (by omega)
      · rw [cell_of_row _ _ _ _ _ _ hh]; exact zero_get _ _ (by omega)
      · rw [cell_of_row _ _ _ _ _ _ hh]; exact zero_get _ _ (by omega)
    · rw [cell_of_row _ _ _ _ _ _ hh]; exact zero_get _ _ hj
    · unfold World.frozen?
      rw [hh]
      simp

set_option maxHeartbeats 4000000 in
theorem walkEsnw (v : Value) (m : Mdl) {w : World} (h : ∃ A n c B k d, v = .agg #[.slice A n c, .slice B k d, .int .i64 m.til] ∧ MdlV w A n B k m) :
    Calls Try.prog 10 #[v] w fun x w' => x = .returned (.bool true) ∧ Up w w' := by
  obtain ⟨A, n, c, B, k, d, rfl, hM⟩ := h
  have HM := Lib.hid hM
  have hk := hM.big
  have BX := Lib.hid (Box3.new w (.slice A n c) (.slice B k d) (.int .i64 m.til) 38)
  have CS := Lib.hid (fun W (u : Up w W) => szMdl_any A n c B k d m W (hM.up u))
  have CT := Lib.hid (fun W (u : Up w W) hS => toMdl_any A n c B k d m W (hM.up u) hS)
  have CP := Lib.hid (fun A n c B k d W (h : MdlV W A n B k m) => specSeqNew_any A n c B k d m W h)
  have CI := Lib.hid (fun A n c B k d W (h : MdlV W A n B k m) => implSeqNew_any A n c B k d m W h)
  have CE := Lib.hid (fun A n c B k d A' n' c' B' k' d' W (h1 : MdlV W A n B k m) (h2 : MdlV W A' n' B' k' m) (hS : FitM m) => eqMdl_any A n c B k d m A' n' c' B' k' d' m W h1 h2 hS)
  rw [decide_eq_true (rfl : m = m)] at CE
  have FEW := sq0_few m
  have OP := Lib.hid (fun lo v w (h : SqRes lo m v w) => h.open_)
  generalize sq0 m = s0 at OP FEW
  obtain ⟨hf1, hf2⟩ := FEW
  generalize hnc : s0.comps.length = nc at OP hf1
  generalize hnw : s0.wait.length = nw at OP hf2
  clear hnc hnw
  have CQ := Lib.hid (fun Ac cc Aw cw Bc dc Bw dw W (h1 : SqV W Ac nc Aw nw none 0 s0) (h2 : SqV W Bc nc Bw nw none 0 s0) => eqSq_any Ac nc cc Aw nw cw none 0 0 s0 Bc nc dc Bw nw dw none 0 0 s0 W (by omega) (by omega) (by omega) h1 h2)
  rw [decide_eq_true (rfl : s0 = s0)] at CQ
  clear hM
  unfold NewMdl at CT
  generalize htil : m.til = til at *
  go_enter Try.func10, Try.ntmps10
  go_wp2_with fail
  refine (CS.out _ ((Up.refl _).alloc _)).mono ?_
  rintro x w1 ⟨z, rfl, hz, u1⟩
  have U1 := Lib.hid (((Up.refl w).alloc _).trans u1)
  have B1 := Lib.hid (BX.out.up u1)
  clear u1
  rcases hz with rfl | ⟨z0, z1, hS⟩
  · go_wp2
    go_ret
    exact ⟨rfl, U1.out⟩
  · have SH := Lib.hid hS
    have j0 : ¬ z < 0 := by omega
    have hn6 : n ≤ 1048576 := hS.few
    have hk6 : k ≤ 1048576 := by have := hS.fit.2; have := HM.out.starts.1; omega
    clear hS
    obtain ⟨q0, q1, q2⟩ := And.intro B1.out.c0 (And.intro B1.out.c1 B1.out.c2)
    go_wp2_with fail
    generalize hb3 : w.heap.size = b3 at *
    refine (CT.out _ U1.out SH.out).mono ?_
    rintro x w2 ⟨g1, g2, rfl, hg1, hg2, o1, o2, u2⟩
    have V2 := Lib.hid (NewMdl.v o1 o2 hk)
    have U2 := Lib.hid (U1.out.trans u2)
    have B2 := Lib.hid (B1.out.up u2)
    clear o1 o2 hg1 hg2 u2 q0 q1 q2
    go_wp2_with fail
    refine (CP.out _ _ _ _ _ _ _ V2.out).mono ?_
    rintro x w3 ⟨v, rfl, hres, u3⟩
    obtain ⟨Ac, cc, Aw, cw, rfl, own⟩ := OP.out _ _ _ hres
    have ua := (Up.refl w3).alloc (.cells #[.slice Ac nc cc, .slice Aw nw cw, .slice none 0 0] 72)
    have SV := Lib.hid (own.v.up ua)
    have X3 := Lib.hid (Box3.new w3 (.slice Ac nc cc) (.slice Aw nw cw) (.slice none 0 0) 72)
    have U3 := Lib.hid (U2.out.trans (u3.trans ua))
    have B3 := Lib.hid (B2.out.up (u3.trans ua))
    clear hres own u3 ua V2
    obtain ⟨q0, q1, q2⟩ := And.intro B3.out.c0 (And.intro B3.out.c1 B3.out.c2)
    go_wp2_with fail
    generalize hb4 : w3.heap.size = b4 at *
    generalize w3.alloc (.cells #[.slice Ac nc cc, .slice Aw nw cw, .slice none 0 0] 72) = W3 at *
    clear hb4
    refine (CT.out _ U3.out SH.out).mono ?_
    rintro x w4 ⟨g1, g2, rfl, hg1, hg2, o1, o2, u4⟩
    have SZ1 := Lib.hid (o1.sh (lo := W3.heap.size) (hi := w4.heap.size) SH.out.shorts hg1 (Nat.le_refl _))
    have SZ2 := Lib.hid (o2.sh (lo := W3.heap.size) (hi := w4.heap.size) hg2 (Nat.le_refl _))
    have ua := (Up.refl w4).alloc (.cells #[.slice (some ⟨g1, 0, none⟩) n n, .slice (some ⟨g2, 0, none⟩) k k, .int .i64 til] 26)
    have X4 := Lib.hid (Box3.new w4 (.slice (some ⟨g1, 0, none⟩) n n) (.slice (some ⟨g2, 0, none⟩) k k) (.int .i64 til) 26)
    have VX := Lib.hid ((NewMdl.v o1 o2 hk).up ua)
    have SZ1 := Lib.hid (SZ1.out.ints ua.ints)
    have SZ2 := Lib.hid (SZ2.out.ints ua.ints)
    have U34 := Lib.hid (u4.trans ua)
    have hHI : W3.heap.size ≤ w4.heap.size := u4.size
    clear o1 o2 u4 ua q0 q1 q2 hg1 hg2
    go_wp2_with fail
    have HV0 := Lib.hid (show w4.heap.size + 1 = (w4.alloc (.cells #[.slice (some ⟨g1, 0, none⟩) n n, .slice (some ⟨g2, 0, none⟩) k k, .int .i64 til] 26)).heap.size by simp)
    generalize hb10 : w4.heap.size = b10 at *
    generalize w4.alloc (.cells #[.slice (some ⟨g1, 0, none⟩) n n, .slice (some ⟨g2, 0, none⟩) k k, .int .i64 til] 26) = V0 at *
    have hV0 : b10 + 1 = V0.heap.size := HV0.out
    clear hb10
    refine (CI.out _ _ _ _ _ _ _ VX.out).mono ?_
    rintro x w5 ⟨v, rfl, hres, u5⟩
    obtain ⟨Bc, dc, Bw, dw, rfl, own⟩ := OP.out _ _ _ hres
    have ua := (Up.refl w5).alloc (.cells #[.slice Bc nc dc, .slice Bw nw dw, .slice none 0 0] 72)
    have u6 := u5.trans ua
    have GO := Lib.hid (own.up ua)
    have NE := Lib.hid (And.intro (fun h g => own.m1.ne (Nat.le_refl _) h g) (fun h g => own.m2.ne (Nat.le_refl _) h g))
    have X6 := Lib.hid (Box3.new w5 (.slice Bc nc dc) (.slice Bw nw dw) (.slice none 0 0) 72)
    have U34 := Lib.hid (U34.out.trans u6)
    have X4 := Lib.hid (X4.out.up u6)
    have VX := Lib.hid (VX.out.up u6)
    have SZ1 := Lib.hid (SZ1.out.ints u6.ints)
    have SZ2 := Lib.hid (SZ2.out.ints u6.ints)
    have hb6l := Lib.hid (show V0.heap.size ≤ w5.heap.size from u5.size)
    have X3' := Lib.hid (X3.out.up U34.out)
    clear hres own u5 ua u6
    obtain ⟨p0, p1, p2⟩ := And.intro X3'.out.c0 (And.intro X3'.out.c1 X3'.out.c2)
    have pl := X3'.out.lt
    go_wp2_with fail
    have HV6 := Lib.hid (show w5.heap.size + 1 = (w5.alloc (.cells #[.slice Bc nc dc, .slice Bw nw dw, .slice none 0 0] 72)).heap.size by simp)
    generalize hb6 : w5.heap.size = b6 at *
    generalize w5.alloc (.cells #[.slice Bc nc dc, .slice Bw nw dw, .slice none 0 0] 72) = W6 at *
    clear hb6 p0 p1 p2 pl
    have hW6 : V0.heap.size ≤ W6.heap.size := by have := HV6.out; have := hb6l.out; omega
    refine (CQ.out _ _ _ _ _ _ _ _ _ GO.out.v (SV.out.up U34.out)).mono ?_
    rintro x w7 ⟨rfl, u7⟩
    have U34 := Lib.hid (U34.out.trans u7)
    have X4 := Lib.hid (X4.out.up u7)
    have X6 := Lib.hid (X6.out.up u7)
    have GO := Lib.hid (GO.out.up u7)
    have VX := Lib.hid (VX.out.up u7)
    have SZ1 := Lib.hid (SZ1.out.ints u7.ints)
    have SZ2 := Lib.hid (SZ2.out.ints u7.ints)
    have hW7 : V0.heap.size ≤ w7.heap.size := by have := u7.size; omega
    have B7 := Lib.hid (B3.out.up U34.out)
    have U7 := Lib.hid (U3.out.trans U34.out)
    clear u7
    go_wp2_with fail
    have HB := And.intro B7.out.lt (And.intro X4.out.lt (And.intro B7.out.c0 (And.intro B7.out.c1 (And.intro B7.out.c2 (And.intro X4.out.c0 (And.intro X4.out.c1 X4.out.c2))))))
    have HH := Lib.hid HB
    obtain ⟨l0, l1, q0, q1, q2, r0, r1, r2⟩ := HB
    have ud := (Up.refl w7).drew
    go_region_held3 (fun w' => b3 < w'.heap.size ∧ b10 < w'.heap.size ∧ w'.cell? ⟨b3, 0, none⟩ = some (.slice A n c) ∧ w'.cell? ⟨b3, 1, none⟩ = some (.slice B k d) ∧ w'.cell? ⟨b3, 2, none⟩ = some (.int .i64 til) ∧ w'.cell? ⟨b10, 0, none⟩ = some (.slice (some ⟨g1, 0, none⟩) n n) ∧ w'.cell? ⟨b10, 1, none⟩ = some (.slice (some ⟨g2, 0, none⟩) k k) ∧ w'.cell? ⟨b10, 2, none⟩ = some (.int .i64 til))
      (first | (exact HH.out) | (exact two_up uF (by assumption)) | (exact two_up uE (by assumption)))
      (first
        | (go_at_call 20; refine (CT.out _ (U7.out.trans (Up.refl _).drew) SH.out).mono ?_; rintro x wE ⟨g5, g6, rfl, hg5, hg6, o5, o6, uE⟩; have VE := Lib.hid (NewMdl.v o5 o6 hk); clear o5 o6)
        | (go_at_call 21; refine (CE.out _ n n _ k k _ n n _ k k _ (VX.out.up ((Up.refl _).drew.trans uE)) VE.out SH.out.fit).mono ?_; rintro x wF ⟨rfl, uF⟩))
    have u8 := ((Up.refl w7).drew.trans uE).trans uF
    have U34 := Lib.hid (U34.out.trans u8)
    have X4 := Lib.hid (X4.out.up u8)
    have X6 := Lib.hid (X6.out.up u8)
    have GO := Lib.hid (GO.out.up u8)
    have SZ1 := Lib.hid (SZ1.out.ints u8.ints)
    have SZ2 := Lib.hid (SZ2.out.ints u8.ints)
    have hW8 : V0.heap.size ≤ wF.heap.size := by have := u8.size; omega
    clear u8 uE uF ud l0 l1 q0 q1 q2 r0 r1 r2 VE VX HH B7 U7
    obtain ⟨q0, q1, q2⟩ := And.intro X4.out.c0 (And.intro X4.out.c1 X4.out.c2)
    have hb6 : V0.heap.size ≤ b6 := hb6l.out
    go_wp2_with fail
    refine (markMdl_any W3.heap.size b10 g1 g2 n n k k til _ hn6 hk6 SZ1.out SZ2.out (by omega)).mono ?_
    rintro x w8 ⟨mz, rfl, hmz0, hmz1, m8⟩
    have X6 := Lib.hid (X6.out.ints m8 (by omega))
    have GO := Lib.hid (GO.out.ints m8 (by omega))
    have U34 := Lib.hid (m8.up U34.out (Nat.le_refl _))
    have hW9 : V0.heap.size ≤ w8.heap.size := by have := m8.size; omega
    have jm : ¬ mz < 0 := by omega
    clear m8 q0 q1 q2 SZ1 SZ2 X4
    have X3' := Lib.hid (X3.out.up U34.out)
    obtain ⟨p0, p1, p2⟩ := And.intro X3'.out.c0 (And.intro X3'.out.c1 X3'.out.c2)
    obtain ⟨q0, q1, q2⟩ := And.intro X6.out.c0 (And.intro X6.out.c1 X6.out.c2)
    go_wp2_with fail
    refine (CQ.out _ _ _ _ _ _ _ _ _ GO.out.v (SV.out.up U34.out)).mono ?_
    rintro x w9 ⟨rfl, u9⟩
    have U34 := Lib.hid (U34.out.trans u9)
    have X6 := Lib.hid (X6.out.up u9)
    have GO := Lib.hid (GO.out.up u9)
    have hW10 : V0.heap.size ≤ w9.heap.size := by have := u9.size; omega
    clear u9 p0 p1 p2 q0 q1 q2 X3'
    obtain ⟨q0, q1, q2⟩ := And.intro X6.out.c0 (And.intro X6.out.c1 X6.out.c2)
    have X6L := Lib.hid X6.out.lt
    go_wp2_with fail
    refine (markSq_any V0.heap.size Bc nc dc Bw nw dw none 0 0 _ (by omega) (by omega) (by omega) GO.out.m1 GO.out.m2 GO.out.m3).mono ?_
    rintro x w10 ⟨rfl, hheld, hup, hbx, hsz⟩
    have HE := Lib.hid hheld
    have U34 := Lib.hid (hup _ U34.out (by omega) hW10)
    have X6 := Lib.hid (hbx _ _ _ _ X6.out NE.out.1 NE.out.2 (fun h => absurd h (by omega)))
    have hW11 : V0.heap.size ≤ w10.heap.size := by omega
    clear hheld hup hbx hsz q0 q1 q2 X6L GO NE
    obtain ⟨q0, q1, q2⟩ := And.intro X6.out.c0 (And.intro X6.out.c1 X6.out.c2)
    have B7 := Lib.hid (B3.out.up U34.out)
    have U7 := Lib.hid (U3.out.trans U34.out)
    obtain ⟨r0, r1, r2⟩ := And.intro B7.out.c0 (And.intro B7.out.c1 B7.out.c2)
    go_wp2_with fail
    have jq : ¬ (1 + 3 * (nc : Int) + 6 * (nw : Int)) < 0 := by omega
    refine (heldSq_any Bc nc dc Bw nw dw none 0 0 w10 (by omega) (by omega) (by omega) HE.out).mono ?_
    rintro x w11 ⟨rfl, u11⟩
    have HE := Lib.hid (HE.out.up u11)
    have U34 := Lib.hid (U34.out.trans u11)
    have U7 := Lib.hid (U7.out.trans u11)
    have X6 := Lib.hid (X6.out.up u11)
    clear u11 q0 q1 q2 r0 r1 r2 B7
    have B7 := Lib.hid (B3.out.up U34.out)
    obtain ⟨r0, r1, r2⟩ := And.intro B7.out.c0 (And.intro B7.out.c1 B7.out.c2)
    go_wp2_with fail
    refine (CT.out _ U7.out SH.out).mono ?_
    rintro x w12 ⟨g5, g6, rfl, hg5, hg6, o5, o6, u12⟩
    have V12 := Lib.hid (NewMdl.v o5 o6 hk)
    clear o5 o6 hg5 hg6 r0 r1 r2 B7
    go_wp2_with fail
    refine (CI.out _ _ _ _ _ _ _ V12.out).mono ?_
    rintro x w13 ⟨v, rfl, hres, u13⟩
    obtain ⟨Dc, ec, Dw, ew, rfl, own⟩ := OP.out _ _ _ hres
    have ua := (Up.refl w13).alloc (.cells #[.slice Dc nc ec, .slice Dw nw ew, .slice none 0 0] 72)
    have u14 := (u12.trans u13).trans ua
    have DV := Lib.hid (own.v.up ua)
    have X13 := Lib.hid (Box3.new w13 (.slice Dc nc ec) (.slice Dw nw ew) (.slice none 0 0) 72)
    have HE := Lib.hid (HE.out.up u14)
    have U34 := Lib.hid (U34.out.trans u14)
    have X6 := Lib.hid (X6.out.up u14)
    clear hres own u12 u13 u14 ua V12
    have X3' := Lib.hid (X3.out.up U34.out)
    obtain ⟨p0, p1, p2⟩ := And.intro X3'.out.c0 (And.intro X3'.out.c1 X3'.out.c2)
    go_wp2_with fail
    have HV14 := Lib.hid (show w13.heap.size + 1 = (w13.alloc (.cells #[.slice Dc nc ec, .slice Dw nw ew, .slice none 0 0] 72)).heap.size by simp)
    generalize hb14 : w13.heap.size = b14 at *
    generalize w13.alloc (.cells #[.slice Dc nc ec, .slice Dw nw ew, .slice none 0 0] 72) = W14 at *
    clear hb14 p0 p1 p2 X3'
    refine (CQ.out _ _ _ _ _ _ _ _ _ DV.out (SV.out.up U34.out)).mono ?_
    rintro x w15 ⟨rfl, u15⟩
    have HE := Lib.hid (HE.out.up u15)
    have U34 := Lib.hid (U34.out.trans u15)
    have X6 := Lib.hid (X6.out.up u15)
    clear u15 X13 DV
    obtain ⟨q0, q1, q2⟩ := And.intro X6.out.c0 (And.intro X6.out.c1 X6.out.c2)
    go_wp2_with fail
    refine (heldSq_any Bc nc dc Bw nw dw none 0 0 w15 (by omega) (by omega) (by omega) HE.out).mono ?_
    rintro x w16 ⟨rfl, u16⟩
    have U7 := Lib.hid (U3.out.trans (U34.out.trans u16))
    clear u16 q0 q1 q2
    go_wp2
    go_ret
    exact ⟨rfl, U7.out⟩

end Go.Proofs.Ytkfjemgelmbcfaa

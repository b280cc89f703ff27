/-
  What FnExactSeqAll returns, in one sentence: true, with new blocks alone; for every model that lies in memory.
  For every model the law FnExactSeqAll returns true and leaves its argument as it was; no condition.
-/
import Derived.Deep.RegionHeld3
import Derived.Test.YtlikekmhccnilaaGreatDLEsal01
import Derived.Test.YtlikekmhccnilaaGreatDLEsal02
import Derived.Test.YtlikekmhccnilaaGreatDLEsal10
import Derived.Test.YtlikekmhccnilaaGreatDLEsal38
import Derived.Test.YtlikekmhccnilaaGreatRows
namespace Go.Proofs.YtlikekmhccnilaaGreat
set_option maxRecDepth 100000
open Go.RowKit
theorem allR_small (m : Mdl) : (allR m).comps.length ≤ 4 ∧ (allR m).wait.length ≤ 54 ∧ (allR m).log.length ≤ 54 := by
  cases hm : mdlB m
  · have : allR m = ⟨[], [], []⟩ := by unfold allR; rw [if_neg (by rw [hm]; exact Bool.false_ne_true)]
    rw [this]; simp
  · obtain ⟨s', hs', he⟩ := (run0 hm).ends
    rw [← he]
    have h1 := hs'.go.few
    have h2 := mdlB_few hs'.go.md
    have h3 := hs'.all
    omega
set_option maxHeartbeats 8000000 in
theorem walkEsal (v : Value) (m : Mdl) {w : World} (h : ∃ A n c B k d, v = .agg #[.slice A n c, .slice B k d, .int .i64 m.til] ∧ MdlV w A n B k m) :
    Calls Tryz.prog 4 #[v] w fun x w' => x = .returned (.bool true) ∧ Up w w' := by
  obtain ⟨A, n, c, B, k, d, rfl, hM⟩ := h
  have HM := Lib.hid hM
  have hk := hM.big
  have BX := Lib.hid (Box3.new w (.slice A n c) (.slice B k d) (.int .i64 m.til) 25)
  have CS := Lib.hid (fun W (u : Up w W) => szMdl_any A n c B k d m W (hM.up u))
  have CT := Lib.hid (fun W (u : Up w W) hS => toMdl_any A n c B k d m W (hM.up u) hS)
  have CP := Lib.hid (fun A n c B k d W (h : MdlV W A n B k m) => specSeqAll_any A n c B k d m W h)
  have CI := Lib.hid (fun A n c B k d W (h : MdlV W A n B k m) => implSeqAll_any A n c B k d m W h)
  have CE := Lib.hid (fun A n c B k d A' n' c' B' k' d' W (h1 : MdlV W A n B k m) (h2 : MdlV W A' n' B' k' m) (hS : FitM m) => eqMdl_any A n c B k d m A' n' c' B' k' d' m W h1 h2 hS)
  rw [decide_eq_true (rfl : m = m)] at CE
  have FEW := allR_small m
  unfold AllP at CP CI
  generalize allR m = s0 at CP CI FEW
  obtain ⟨hf1, hf2, hf3⟩ := FEW
  generalize s0.comps.length = nc at CP CI hf1
  generalize s0.wait.length = nw at CP CI hf2
  generalize s0.log.length = nl at CP CI hf3
  have CQ := Lib.hid (fun Ac cc Aw cw Al cl Bc dc Bw dw Bl dl W (h1 : SqV W Ac nc Aw nw Al nl s0) (h2 : SqV W Bc nc Bw nw Bl nl s0) => eqSq_any Ac nc cc Aw nw cw Al nl cl s0 Bc nc dc Bw nw dw Bl nl dl s0 W (by omega) (by omega) (by omega) h1 h2)
  rw [decide_eq_true (rfl : s0 = s0)] at CQ; clear hM; unfold NewMdl at CT
  generalize htil : m.til = til at *
  go_enter Tryz.func4, Tryz.ntmps4
  go_wp2_with fail
  refine (CS.out _ ((Up.refl _).alloc _)).mono ?_; rintro x w1 ⟨z, rfl, hz, u1⟩
  have U1 := Lib.hid (((Up.refl w).alloc _).trans u1)
  have B1 := Lib.hid (BX.out.up u1)
  clear u1
  rcases hz with rfl | ⟨z0, z1, hS⟩
  · go_wp2
    go_ret
    exact ⟨rfl, U1.out⟩
  · have SH := Lib.hid hS
    have j0 : ¬ z < 0 := by omega
    have hn6 : n ≤ 1048576 := hS.few
    have hk6 : k ≤ 1048576 := by have := hS.fit.2; have := HM.out.starts.1; omega
    clear hS; obtain ⟨q0, q1, q2⟩ := And.intro B1.out.c0 (And.intro B1.out.c1 B1.out.c2)
    go_wp2_with fail
    generalize hb3 : w.heap.size = b3 at *
    refine (CT.out _ U1.out SH.out).mono ?_; rintro x w2 ⟨g1, g2, rfl, hg1, hg2, o1, o2, u2⟩
    have V2 := Lib.hid (NewMdl.v o1 o2 hk)
    have U2 := Lib.hid (U1.out.trans u2)
    have B2 := Lib.hid (B1.out.up u2)
    clear o1 o2 hg1 hg2 u2 q0 q1 q2
    go_wp2_with fail
    refine (CP.out _ _ _ _ _ _ _ V2.out).mono ?_; rintro x w3 ⟨⟨Ac, cc, Aw, cw, Al, cl, rfl, own⟩, u3⟩
    have ua := (Up.refl w3).alloc (.cells #[.slice Ac nc cc, .slice Aw nw cw, .slice Al nl cl] 36)
    have SV := Lib.hid (own.v.up ua)
    have X3 := Lib.hid (Box3.new w3 (.slice Ac nc cc) (.slice Aw nw cw) (.slice Al nl cl) 36)
    have U3 := Lib.hid (U2.out.trans (u3.trans ua))
    have B3 := Lib.hid (B2.out.up (u3.trans ua))
    clear own u3 ua V2; obtain ⟨q0, q1, q2⟩ := And.intro B3.out.c0 (And.intro B3.out.c1 B3.out.c2)
    go_wp2_with fail
    generalize hb4 : w3.heap.size = b4 at *
    generalize w3.alloc (.cells #[.slice Ac nc cc, .slice Aw nw cw, .slice Al nl cl] 36) = W3 at *
    clear hb4; refine (CT.out _ U3.out SH.out).mono ?_; rintro x w4 ⟨g1, g2, rfl, hg1, hg2, o1, o2, u4⟩
    have SZ1 := Lib.hid (o1.sh (lo := W3.heap.size) (hi := w4.heap.size) SH.out.shorts hg1 (Nat.le_refl _))
    have SZ2 := Lib.hid (o2.sh (lo := W3.heap.size) (hi := w4.heap.size) hg2 (Nat.le_refl _))
    have ua := (Up.refl w4).alloc (.cells #[.slice (some ⟨g1, 0, none⟩) n n, .slice (some ⟨g2, 0, none⟩) k k, .int .i64 til] 41)
    have X4 := Lib.hid (Box3.new w4 (.slice (some ⟨g1, 0, none⟩) n n) (.slice (some ⟨g2, 0, none⟩) k k) (.int .i64 til) 41)
    have VX := Lib.hid ((NewMdl.v o1 o2 hk).up ua)
    have SZ1 := Lib.hid (SZ1.out.ints ua.ints)
    have SZ2 := Lib.hid (SZ2.out.ints ua.ints)
    have U34 := Lib.hid (u4.trans ua)
    have hHI : W3.heap.size ≤ w4.heap.size := u4.size
    clear o1 o2 u4 ua q0 q1 q2 hg1 hg2
    go_wp2_with fail
    have HV0 := Lib.hid (show w4.heap.size + 1 = (w4.alloc (.cells #[.slice (some ⟨g1, 0, none⟩) n n, .slice (some ⟨g2, 0, none⟩) k k, .int .i64 til] 41)).heap.size by simp)
    generalize hb10 : w4.heap.size = b10 at *
    generalize w4.alloc (.cells #[.slice (some ⟨g1, 0, none⟩) n n, .slice (some ⟨g2, 0, none⟩) k k, .int .i64 til] 41) = V0 at *
    have hV0 : b10 + 1 = V0.heap.size := HV0.out
    clear hb10; refine (CI.out _ _ _ _ _ _ _ VX.out).mono ?_; rintro x w5 ⟨⟨Bc, dc, Bw, dw, Bl, dl, rfl, own⟩, u5⟩
    have ua := (Up.refl w5).alloc (.cells #[.slice Bc nc dc, .slice Bw nw dw, .slice Bl nl dl] 36)
    have u6 := u5.trans ua
    have GO := Lib.hid (own.up ua)
    have NE := Lib.hid (And.intro (fun h g => own.m1.ne (Nat.le_refl _) h g) (And.intro (fun h g => own.m2.ne (Nat.le_refl _) h g) (fun h g => own.m3.ne (Nat.le_refl _) h g)))
    have X6 := Lib.hid (Box3.new w5 (.slice Bc nc dc) (.slice Bw nw dw) (.slice Bl nl dl) 36)
    have U34 := Lib.hid (U34.out.trans u6)
    have X4 := Lib.hid (X4.out.up u6)
    have VX := Lib.hid (VX.out.up u6)
    have SZ1 := Lib.hid (SZ1.out.ints u6.ints)
    have SZ2 := Lib.hid (SZ2.out.ints u6.ints)
    have hb6l := Lib.hid (show V0.heap.size ≤ w5.heap.size from u5.size)
    have X3' := Lib.hid (X3.out.up U34.out)
    clear own u5 ua u6; obtain ⟨p0, p1, p2⟩ := And.intro X3'.out.c0 (And.intro X3'.out.c1 X3'.out.c2)
    have pl := X3'.out.lt
    go_wp2_with fail
    have HV6 := Lib.hid (show w5.heap.size + 1 = (w5.alloc (.cells #[.slice Bc nc dc, .slice Bw nw dw, .slice Bl nl dl] 36)).heap.size by simp)
    generalize hb6 : w5.heap.size = b6 at *
    generalize w5.alloc (.cells #[.slice Bc nc dc, .slice Bw nw dw, .slice Bl nl dl] 36) = W6 at *
    clear hb6 p0 p1 p2 pl
    have hW6 : V0.heap.size ≤ W6.heap.size := by have := HV6.out; have := hb6l.out; omega
    refine (CQ.out _ _ _ _ _ _ _ _ _ _ _ _ _ GO.out.v (SV.out.up U34.out)).mono ?_; rintro x w7 ⟨rfl, u7⟩
    have U34 := Lib.hid (U34.out.trans u7)
    have X4 := Lib.hid (X4.out.up u7)
    have X6 := Lib.hid (X6.out.up u7)
    have GO := Lib.hid (GO.out.up u7)
    have VX := Lib.hid (VX.out.up u7)
    have SZ1 := Lib.hid (SZ1.out.ints u7.ints)
    have SZ2 := Lib.hid (SZ2.out.ints u7.ints)
    have hW7 : V0.heap.size ≤ w7.heap.size := by have := u7.size; omega
    have B7 := Lib.hid (B3.out.up U34.out)
    have U7 := Lib.hid (U3.out.trans U34.out)
    clear u7
    go_wp2_with fail
    have HB := And.intro B7.out.lt (And.intro X4.out.lt (And.intro B7.out.c0 (And.intro B7.out.c1 (And.intro B7.out.c2 (And.intro X4.out.c0 (And.intro X4.out.c1 X4.out.c2))))))
    have HH := Lib.hid HB
    obtain ⟨l0, l1, q0, q1, q2, r0, r1, r2⟩ := HB
    have ud := (Up.refl w7).drew
    go_region_held3 (fun w' => b3 < w'.heap.size ∧ b10 < w'.heap.size ∧ w'.cell? ⟨b3, 0, none⟩ = some (.slice A n c) ∧ w'.cell? ⟨b3, 1, none⟩ = some (.slice B k d) ∧ w'.cell? ⟨b3, 2, none⟩ = some (.int .i64 til) ∧ w'.cell? ⟨b10, 0, none⟩ = some (.slice (some ⟨g1, 0, none⟩) n n) ∧ w'.cell? ⟨b10, 1, none⟩ = some (.slice (some ⟨g2, 0, none⟩) k k) ∧ w'.cell? ⟨b10, 2, none⟩ = some (.int .i64 til))
      (first | (exact HH.out) | (exact two_up uF (by assumption)) | (exact two_up uE (by assumption)))
      (first
        | (go_at_call 14; refine (CT.out _ (U7.out.trans (Up.refl _).drew) SH.out).mono ?_; rintro x wE ⟨g5, g6, rfl, hg5, hg6, o5, o6, uE⟩; have VE := Lib.hid (NewMdl.v o5 o6 hk); clear o5 o6)
        | (go_at_call 18; refine (CE.out _ n n _ k k _ n n _ k k _ (VX.out.up ((Up.refl _).drew.trans uE)) VE.out SH.out.fit).mono ?_; rintro x wF ⟨rfl, uF⟩))
    have u8 := ((Up.refl w7).drew.trans uE).trans uF
    have U34 := Lib.hid (U34.out.trans u8)
    have X4 := Lib.hid (X4.out.up u8)
    have X6 := Lib.hid (X6.out.up u8)
    have GO := Lib.hid (GO.out.up u8)
    have SZ1 := Lib.hid (SZ1.out.ints u8.ints)
    have SZ2 := Lib.hid (SZ2.out.ints u8.ints)
    have hW8 : V0.heap.size ≤ wF.heap.size := by have := u8.size; omega
    clear u8 uE uF ud l0 l1 q0 q1 q2 r0 r1 r2 VE VX HH B7 U7; obtain ⟨q0, q1, q2⟩ := And.intro X4.out.c0 (And.intro X4.out.c1 X4.out.c2)
    have hb6 : V0.heap.size ≤ b6 := hb6l.out
    go_wp2_with fail
    refine (markMdl_any W3.heap.size b10 g1 g2 n n k k til _ hn6 hk6 SZ1.out SZ2.out (by omega)).mono ?_; rintro x w8 ⟨mz, rfl, hmz0, hmz1, m8⟩
    have X6 := Lib.hid (X6.out.ints m8 (by omega))
    have GO := Lib.hid (GO.out.ints m8 (by omega))
    have U34 := Lib.hid (m8.up U34.out (Nat.le_refl _))
    have hW9 : V0.heap.size ≤ w8.heap.size := by have := m8.size; omega
    have jm : ¬ mz < 0 := by omega
    clear m8 q0 q1 q2 SZ1 SZ2 X4
    have X3' := Lib.hid (X3.out.up U34.out)
    obtain ⟨p0, p1, p2⟩ := And.intro X3'.out.c0 (And.intro X3'.out.c1 X3'.out.c2); obtain ⟨q0, q1, q2⟩ := And.intro X6.out.c0 (And.intro X6.out.c1 X6.out.c2)
    go_wp2_with fail
    refine (CQ.out _ _ _ _ _ _ _ _ _ _ _ _ _ GO.out.v (SV.out.up U34.out)).mono ?_; rintro x w9 ⟨rfl, u9⟩
    have U34 := Lib.hid (U34.out.trans u9)
    have X6 := Lib.hid (X6.out.up u9)
    have GO := Lib.hid (GO.out.up u9)
    have hW10 : V0.heap.size ≤ w9.heap.size := by have := u9.size; omega
    clear u9 p0 p1 p2 q0 q1 q2 X3'; obtain ⟨q0, q1, q2⟩ := And.intro X6.out.c0 (And.intro X6.out.c1 X6.out.c2)
    have X6L := Lib.hid X6.out.lt
    go_wp2_with fail
    refine (markSq_ap V0.heap.size Bc nc dc Bw nw dw Bl nl dl _ (by omega) (by omega) (by omega) GO.out.m1 GO.out.m2 GO.out.m3 GO.out.p12 GO.out.p13 GO.out.p23).mono ?_; rintro x w10 ⟨rfl, hheld, hup, hbx, hsz⟩
    have HE := Lib.hid hheld
    have U34 := Lib.hid (hup _ U34.out (by omega) hW10)
    have X6 := Lib.hid (hbx _ _ _ _ X6.out NE.out.1 NE.out.2.1 NE.out.2.2)
    have hW11 : V0.heap.size ≤ w10.heap.size := by omega
    clear hheld hup hbx hsz q0 q1 q2 X6L GO NE; obtain ⟨q0, q1, q2⟩ := And.intro X6.out.c0 (And.intro X6.out.c1 X6.out.c2)
    have B7 := Lib.hid (B3.out.up U34.out)
    have U7 := Lib.hid (U3.out.trans U34.out)
    obtain ⟨r0, r1, r2⟩ := And.intro B7.out.c0 (And.intro B7.out.c1 B7.out.c2)
    go_wp2_with fail
    have jq : ¬ (1 + 3 * (nc : Int) + 6 * (nw : Int) + 7 * (nl : Int)) < 0 := by omega
    refine (heldSq_any Bc nc dc Bw nw dw Bl nl dl w10 (by omega) (by omega) (by omega) HE.out).mono ?_; rintro x w11 ⟨rfl, u11⟩
    have HE := Lib.hid (HE.out.up u11)
    have U34 := Lib.hid (U34.out.trans u11)
    have U7 := Lib.hid (U7.out.trans u11)
    have X6 := Lib.hid (X6.out.up u11)
    clear u11 q0 q1 q2 r0 r1 r2 B7
    have B7 := Lib.hid (B3.out.up U34.out)
    obtain ⟨r0, r1, r2⟩ := And.intro B7.out.c0 (And.intro B7.out.c1 B7.out.c2)
    go_wp2_with fail
    refine (CT.out _ U7.out SH.out).mono ?_; rintro x w12 ⟨g5, g6, rfl, hg5, hg6, o5, o6, u12⟩
    have V12 := Lib.hid (NewMdl.v o5 o6 hk)
    clear o5 o6 hg5 hg6 r0 r1 r2 B7
    go_wp2_with fail
    refine (CI.out _ _ _ _ _ _ _ V12.out).mono ?_; rintro x w13 ⟨⟨Dc, ec, Dw, ew, Dl, el, rfl, own⟩, u13⟩
    have ua := (Up.refl w13).alloc (.cells #[.slice Dc nc ec, .slice Dw nw ew, .slice Dl nl el] 36)
    have u14 := (u12.trans u13).trans ua
    have DV := Lib.hid (own.v.up ua)
    have X13 := Lib.hid (Box3.new w13 (.slice Dc nc ec) (.slice Dw nw ew) (.slice Dl nl el) 36)
    have HE := Lib.hid (HE.out.up u14)
    have U34 := Lib.hid (U34.out.trans u14)
    have X6 := Lib.hid (X6.out.up u14)
    clear own u12 u13 u14 ua V12
    have X3' := Lib.hid (X3.out.up U34.out)
    obtain ⟨p0, p1, p2⟩ := And.intro X3'.out.c0 (And.intro X3'.out.c1 X3'.out.c2)
    go_wp2_with fail
    have HV14 := Lib.hid (show w13.heap.size + 1 = (w13.alloc (.cells #[.slice Dc nc ec, .slice Dw nw ew, .slice Dl nl el] 36)).heap.size by simp)
    generalize hb14 : w13.heap.size = b14 at *
    generalize w13.alloc (.cells #[.slice Dc nc ec, .slice Dw nw ew, .slice Dl nl el] 36) = W14 at *
    clear hb14 p0 p1 p2 X3'; refine (CQ.out _ _ _ _ _ _ _ _ _ _ _ _ _ DV.out (SV.out.up U34.out)).mono ?_; rintro x w15 ⟨rfl, u15⟩
    have HE := Lib.hid (HE.out.up u15)
    have U34 := Lib.hid (U34.out.trans u15)
    have X6 := Lib.hid (X6.out.up u15)
    clear u15 X13 DV; obtain ⟨q0, q1, q2⟩ := And.intro X6.out.c0 (And.intro X6.out.c1 X6.out.c2)
    go_wp2_with fail
    refine (heldSq_any Bc nc dc Bw nw dw Bl nl dl w15 (by omega) (by omega) (by omega) HE.out).mono ?_; rintro x w16 ⟨rfl, u16⟩
    have U7 := Lib.hid (U3.out.trans (U34.out.trans u16))
    clear u16 q0 q1 q2; go_wp2; go_ret
    exact ⟨rfl, U7.out⟩
end Go.Proofs.YtlikekmhccnilaaGreat

namespace Go.Proofs.YtlikekmhccnilaaGreat.fnExactSeqAll
set_option maxRecDepth 100000
open Go.ChangeShapes Go.WideShapes Go.ChangeAt Go.RowKit Go.Joins Go.Deep
set_option linter.unusedVariables false
set_option maxRecDepth 100000 in
theorem lifted (os : Os) (started : os.Started) (H : Type) (enc : TypeId × Value → H) :
    ReturnsInHanded {} Tryz.checked os 4 .any (Rows.fnExactSeqAllSpec.pre6 enc Tryz.prog Tryz.f4 Rows.fnExactSeqAllRow.domain false) (Rows.fnExactSeqAllSpec.post enc Tryz.prog Tryz.f4 false true false false) := by
  refine returnsInHanded_of_change (C := Tryz.checked) own started (by kernel_rfl) Tryz.func4
    (ChangeSpec.witness6 (enc := enc) (C := Tryz.checked) false ⟨#[], #[.agg #[.slice none 0 0, .slice none 0 0, .int .i64 0]], []⟩ 8 (by kernel_rfl) (by kernel_rfl) (by kernel_rfl) (by kernel_rfl)) ?_
  intro W base args ds gs before hval0 hW hcnd _
  have hval : ∀ (j : Nat) t v, Tryz.f4.params[j]? = some t → args[j]? = some v → Value.okWide Tryz.prog W .any base t v := hval0
  have hW' := hW
  obtain ⟨p, q, hA0, hV, rfl, hfz, hnd⟩ := hW
  have hA : DataW.TrodAll enc Tryz.prog W 0 (fun _ => true) true Tryz.f4.params.toList args.toList ds p := hA0
  rw [Tryz.params4] at hA hval; obtain ⟨v0, vs0, d0, ds0, p0, q0, hargs, rfl, rfl, h0, r0⟩ := trodAll_cons hA; obtain ⟨rfl, rfl, rfl⟩ := trodAll_nil r0
  obtain rfl : args = #[v0] := by cases args; simp_all
  obtain ⟨rfl, rfl⟩ := trodVars_none hV
  have k0 := h0
  have lt0 : ∀ x ∈ p0, x.block < W.heap.size := by obtain ⟨m, hm⟩ := k0; exact DataW.trod_lt m _ _ _ hm
  obtain ⟨a0, w0⟩ := open_mdl (hval 0 25 v0 rfl rfl) h0; clear hA0 hval0
  refine (walkEsal v0 a0 w0).mono fun e W' ⟨he, bel⟩ => ?_
  subst he
  exact ⟨_, rfl, _, _, _, [], _, [], hW', trodAll_mk1 (shut_bool Tryz.underlying4 _), (trodAll_cons_mk (Below.trod laidOut (by kernel_rfl) (of_decide_eq_true (by kernel_rfl)) k0 bel lt0) trodAll_mk0), rfl, bel.frame _, fun h => by cases h⟩
theorem fact0 : (Rows.fnExactSeqAllRow.inPlace == Tryz.checked.prog.inPlace 4) = true := by kernel_rfl
theorem fact1 : (Rows.fnExactSeqAllRow.unfollowed == Tryz.checked.prog.unfollowed 4) = true := by kernel_rfl
theorem fact2 : (Rows.fnExactSeqAllRow.recurses == Tryz.checked.prog.recurses 4) = true := by kernel_rfl
theorem fact3 : (Rows.fnExactSeqAllRow.named == Tryz.checked.prog.varsNamed 4) = true := by kernel_rfl
theorem named_ : Tryz.checked.prog.funcNamed Rows.fnExactSeqAllRow.func = some 4 := by kernel_rfl
theorem facts : joinedFacts Tryz.checked.prog 4 Tryz.f4 Rows.fnExactSeqAllSpec Rows.fnExactSeqAllRow = true := by
  unfold joinedFacts; rw [fact0, fact1, fact2, fact3]
  kernel_rfl
theorem over : Rows.fnExactSeqAllRow.holds Tryz.pinned (OpenSpec.ofChange Rows.fnExactSeqAllSpec) :=
  OpenClaim.holds_of_wide 4 Tryz.f4 rfl rfl rfl rfl rfl rfl rfl ⟨rfl, rfl, rfl, rfl, rfl⟩ rfl rfl rfl rfl rfl named_ Tryz.func4 facts
    (of_decide_eq_true (by kernel_rfl)) (by unfold Func.isWrapper; first | (rw [if_pos (by decide +kernel)]; kernel_rfl) | (rw [if_neg (by decide +kernel)]; exact ⟨rfl, rfl⟩))
    (fun os started H enc _ => lifted os started H enc)
theorem proved : Rows.FnExactSeqAllSaid := over
end Go.Proofs.YtlikekmhccnilaaGreat.fnExactSeqAll

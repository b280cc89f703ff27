/-
  What szHstItemS, szHstKeepS, szHstDone, szHstDoneS and szHstState return, in one sentence: -1 or what is left, and then each list is short; for all that lie in memory.
  What eqHstState returns, in one sentence: whether the two are the same; for all hosts that lie in memory.
-/
import Derived.Test.YtjdoealcmokakaaGreatDLEhok08
import Derived.Test.YtjdoealcmokakaaGreatDLEhok16
import Derived.Test.YtjdoealcmokakaaGreatDLEhok31
namespace Go.Proofs.YtjdoealcmokakaaGreat
set_option maxRecDepth 100000
open Go.RowKit
theorem szI_any (A : Option Addr) (n cap : Nat) (left : Int) (w : World) (h0 : 0 ≤ left) (h1 : left ≤ 1048576) (hn : n ≤ 9223372036854775807) :
    Calls Tryz.prog 27 #[.slice A n cap, .int .i64 left] w fun x w' => x = .returned (.int .i64 (if left < n then -1 else left - n)) ∧ w = w' := by
  have hwrap := IntWalk.i64_in (left - n) (by omega)
  by_cases h : left < n
  · have j1 : left - (n : Int) < 0 := by omega
    go_enter Tryz.func27, Tryz.ntmps27
    go_wp2; go_ret
    exact ⟨by first | rfl | (rw [if_pos h]; rfl), rfl⟩
  · have j1 : ¬ left - (n : Int) < 0 := by omega
    go_enter Tryz.func27, Tryz.ntmps27
    go_wp2; go_ret
    exact ⟨by first | rfl | (rw [if_neg h]; rfl), rfl⟩
theorem szKeps_any (A : Option Addr) (n cap : Nat) (left : Int) (w : World) (h0 : 0 ≤ left) (h1 : left ≤ 1048576) (hn : n ≤ 9223372036854775807) :
    Calls Tryz.prog 28 #[.slice A n cap, .int .i64 left] w fun x w' => x = .returned (.int .i64 (if left < n then -1 else left - n)) ∧ w = w' := by
  have hwrap := IntWalk.i64_in (left - n) (by omega)
  by_cases h : left < n
  · have j1 : left - (n : Int) < 0 := by omega
    go_enter Tryz.func28, Tryz.ntmps28
    go_wp2; go_ret
    exact ⟨by first | rfl | (rw [if_pos h]; rfl), rfl⟩
  · have j1 : ¬ left - (n : Int) < 0 := by omega
    go_enter Tryz.func28, Tryz.ntmps28
    go_wp2; go_ret
    exact ⟨by first | rfl | (rw [if_neg h]; rfl), rfl⟩
structure ShortD (rs : List Don) : Prop where
  few : rs.length ≤ 1048576
  small : SmallD rs
theorem szDon_any (r : Don) (A : Option Addr) (n c : Nat) (left : Int) (w : World) (h0 : 0 ≤ left) (h1 : left ≤ 1048576) (hn : n ≤ 9223372036854775807) (hE : Recs w A n r.sent) :
    Calls Tryz.prog 66 #[r.v (.slice A n c), .int .i64 left] w (Sized (r.sent.length ≤ 1048576) left w) := by
  have CL := Lib.hid (fun W => szI_any A n c left W h0 (by omega) hn)
  have LE := Lib.hid hE.1
  obtain ⟨⟨⟨e0, e1, e2, e3, e4, e5⟩, e6⟩, ⟨e7, e8, e9⟩, e10, es⟩ := r; clear hE; unfold Don.v; dsimp only
  by_cases h : left < n
  · have j1 : (-1 : Int) < 0 := by omega
    have C2 := Lib.hid (if_pos h ▸ CL.out)
    clear CL
    go_enter Tryz.func66, Tryz.ntmps66
    go_wp2_with fail
    refine (C2.out _).mono ?_; rintro x w1 ⟨rfl, rfl⟩; go_wp2; go_ret
    exact ⟨-1, rfl, .inl rfl, (Up.refl _).alloc _⟩
  · have j1 : ¬ left - n < 0 := by omega
    have C2 := Lib.hid (if_neg h ▸ CL.out)
    have PP := Lib.hid (show es.length ≤ 1048576 by rw [LE.out]; omega)
    clear CL
    go_enter Tryz.func66, Tryz.ntmps66
    go_wp2_with fail
    refine (C2.out _).mono ?_; rintro x w1 ⟨rfl, rfl⟩; go_wp2; go_ret
    exact ⟨left - n, rfl, .inr ⟨by omega, by omega, PP.out⟩, (Up.refl _).alloc _⟩
set_option maxHeartbeats 2000000 in
theorem szDons_any (A : Option Addr) (n c : Nat) (rs : List Don) (left : Int) (w : World) (h0 : 0 ≤ left) (h1 : left ≤ 1048576) (hR : Dons w A n rs) :
    Calls Tryz.prog 26 #[.slice A n c, .int .i64 left] w (Sized (ShortD rs) left w) := by
  have hbig := hR.2.1
  have HR := Lib.hid hR
  have LR := Lib.hid hR.1
  have CL := Lib.hid (fun r A n c l W a b hn hE => szDon_any r A n c l W a b hn hE)
  clear hR
  have i9 : IntKind.i64.wrap (left - (n : Int)) = left - n := IntWalk.i64_in _ (by omega)
  go_enter Tryz.func26, Tryz.ntmps26
  by_cases h : left < n
  · have j1 : left - n < 0 := by omega
    go_wp2; go_ret
    exact ⟨-1, rfl, .inl rfl, Up.refl _⟩
  · have j1 : ¬ left - n < 0 := by omega
    go_wp2
    go_loopw [1, 5] (fun s i wr => (∃ (l : Int) (k : Nat), k ≤ n ∧ s = .int .i64 l ∧ i = .int .i64 k ∧ 0 ≤ l ∧ l ≤ left ∧ Hid (∀ j, j < k → (rs.getD j default).sent.length ≤ 1048576)) ∧ Up w wr) (fun _ i _ => n - (intOf i).toNat)
    case atStart => exact ⟨⟨left - n, 0, by omega, rfl, rfl, by omega, by omega, Lib.hid (fun j hj => absurd hj (by omega))⟩, Up.refl _⟩
    case round =>
      obtain ⟨⟨l, k, hk, rfl, rfl, hl0, hl1, SM⟩, ur⟩ := hrel
      have UR := Lib.hid ur
      by_cases hlt : k < n
      · obtain ⟨b, off, hA, hb, hc⟩ := (HR.out.up ur).2.2 (by omega)
        subst hA
        have a0 := hc k hlt
        clear hc ur
        have cl := fun A n c W => CL.out (rs.getD k default) A n c l W hl0 (by omega)
        have SK := Lib.hid (fun (h : (rs.getD k default).sent.length ≤ 1048576) j (hj : j < k + 1) => (show (rs.getD j default).sent.length ≤ 1048576 from if e : j = k then e ▸ h else SM.out j (by omega)))
        generalize rs.getD k default = p at a0 cl SK
        obtain ⟨A3, n3, c3, ⟨p0, p1, p2, p3, p4, p5, p6, p7, p8, p9, p10, p11⟩, hn3, he3⟩ := a0
        have cl2 := fun W (u : Up wr W) => cl A3 n3 c3 W hn3 (he3.up u)
        obtain ⟨⟨⟨e0, e1, e2, e3, e4, e5⟩, e6⟩, ⟨e7, e8, e9⟩, e10, es⟩ := p; unfold Don.v at cl2; dsimp only at p0 p1 p2 p3 p4 p5 p6 p7 p8 p9 p10 p11 cl2 SK
        have C := Lib.hid cl2
        clear cl cl2 he3
        have i4 : (k : Int) < n := by omega
        have i5 : IntKind.i64.wrap ((k : Int) + 1) = (k : Int) + 1 := IntWalk.i64_in _ (by omega)
        go_wp2_with fail
        refine (C.out _ (Up.refl _)).mono ?_; rintro x w1 ⟨z, rfl, hz, u1⟩
        have U1 := Lib.hid (UR.out.trans u1)
        clear u1
        rcases hz with rfl | ⟨z0, z1, hp⟩
        · go_wp2
          go_ret
          exact ⟨-1, rfl, .inl rfl, U1.out⟩
        · have S2 := Lib.hid (SK.out hp)
          have j3 : ¬ z < 0 := by omega
          clear hp; go_wp2
          go_roundw
          case rel => exact ⟨⟨z, k + 1, by omega, rfl, by first | rfl | go_num, by omega, by omega, S2⟩, U1.out⟩
          case measure => (simp [intOf]; try omega)
      · have i4 : ¬ (k : Int) < n := by omega
        clear ur; go_wp2; go_ret
        exact ⟨l, rfl, .inr ⟨by omega, by omega, ⟨by rw [LR.out]; omega, fun j hj => SM.out j (by have := LR.out; omega)⟩⟩, UR.out⟩
set_option maxHeartbeats 4000000 in
theorem szHst_any (h : Hst) (Ad : Option Addr) (nd cd : Nat) (Aw : Option Addr) (nw cw : Nat) (Aa : Option Addr) (na ca : Nat) (Ak : Option Addr) (nk ck : Nat) (left : Int) (w : World) (h0 : 0 ≤ left) (h1 : left ≤ 1048576) (hV : HstV w Ad nd Aw nw Aa na Ak nk h) :
    Calls Tryz.prog 7 #[h.v (.slice Ad nd cd) (.slice Aw nw cw) (.slice Aa na ca) (.slice Ak nk ck), .int .i64 left] w (Sized (ShortH h nd nw na nk) left w) := by
  have C0 := Lib.hid (fun l W (u : Up w W) a b => szDons_any Ad nd cd h.done l W a b (hV.done.up u))
  have LD := Lib.hid hV.done.1
  have bw := hV.bw
  have ba := hV.ba
  have bk := hV.bk
  obtain ⟨⟨a0, a1, a2⟩, a3, hd_, hw_, ha_, hk_⟩ := h; unfold Hst.v; dsimp only at C0 LD ⊢
  have X := Lib.hid (Blk.new w #[.int .i64 a0, .int .i64 a1, .int .i64 a2, .int .i64 a3, .slice Ad nd cd, .slice Aw nw cw, .slice Aa na ca, .slice Ak nk ck] 32)
  have U := Lib.hid ((Up.refl w).alloc (.cells #[.int .i64 a0, .int .i64 a1, .int .i64 a2, .int .i64 a3, .slice Ad nd cd, .slice Aw nw cw, .slice Aa na ca, .slice Ak nk ck] 32))
  have jm : (-1 : Int) < 0 := by omega
  clear hV
  go_enter Tryz.func7, Tryz.ntmps7
  go_wp2_with fail
  generalize w.alloc (.cells #[.int .i64 a0, .int .i64 a1, .int .i64 a2, .int .i64 a3, .slice Ad nd cd, .slice Aw nw cw, .slice Aa na ca, .slice Ak nk ck] 32) = W at *
  generalize hb : w.heap.size = b0 at *
  clear hb; refine (C0.out _ _ U.out h0 h1).mono ?_; rintro x w1 ⟨z, rfl, hz, u⟩
  have U := Lib.hid (U.out.trans u)
  have X := Lib.hid (X.out.up u)
  clear u
  rcases hz with rfl | ⟨z0, z1, hp⟩
  · go_wp2
    go_ret
    exact ⟨-1, rfl, .inl rfl, U.out⟩
  · have HP := Lib.hid hp
    have hfew : nd ≤ 1048576 := by have := hp.few; rw [LD.out] at this; exact this
    clear hp
    have j0 : ¬ z < 0 := by omega
    have x5 := X.out.cell (j := 5) rfl
    have lx := X.out.lt
    by_cases gW : z < nw
    · have e : (if z < (nw : Int) then (-1 : Int) else z - nw) = -1 := if_pos gW
      have CC := szI_any Aw nw cw z w1 (by omega) (by omega) (by omega)
      rw [e] at CC
      have CC := Lib.hid CC
      go_wp2_with fail
      refine CC.out.mono ?_; rintro x w2 ⟨rfl, rfl⟩; go_wp2; go_ret
      exact ⟨-1, rfl, .inl rfl, U.out⟩
    · have e : (if z < (nw : Int) then (-1 : Int) else z - nw) = z - nw := if_neg gW
      have CC := szI_any Aw nw cw z w1 (by omega) (by omega) (by omega)
      rw [e] at CC; obtain ⟨zW, hqW⟩ : ∃ q, z - (nw : Int) = q := ⟨_, rfl⟩; rw [hqW] at CC
      have CC := Lib.hid CC
      have jW : ¬ zW < 0 := by omega
      have bW : zW ≤ 1048576 := by omega
      have HQW := Lib.hid hqW
      clear hqW e
      go_wp2_with fail
      refine CC.out.mono ?_; rintro x w2 ⟨rfl, rfl⟩; clear x5 lx CC
      have x6 := X.out.cell (j := 6) rfl
      have lx := X.out.lt
      by_cases gA : zW < na
      · have e : (if zW < (na : Int) then (-1 : Int) else zW - na) = -1 := if_pos gA
        have CC := szI_any Aa na ca zW w1 (by omega) (by omega) (by omega)
        rw [e] at CC
        have CC := Lib.hid CC
        go_wp2_with fail
        refine CC.out.mono ?_; rintro x w2 ⟨rfl, rfl⟩; go_wp2; go_ret
        exact ⟨-1, rfl, .inl rfl, U.out⟩
      · have e : (if zW < (na : Int) then (-1 : Int) else zW - na) = zW - na := if_neg gA
        have CC := szI_any Aa na ca zW w1 (by omega) (by omega) (by omega)
        rw [e] at CC; obtain ⟨zA, hqA⟩ : ∃ q, zW - (na : Int) = q := ⟨_, rfl⟩; rw [hqA] at CC
        have CC := Lib.hid CC
        have jA : ¬ zA < 0 := by omega
        have bA : zA ≤ 1048576 := by omega
        have HQA := Lib.hid hqA
        clear hqA e
        go_wp2_with fail
        refine CC.out.mono ?_; rintro x w2 ⟨rfl, rfl⟩; clear x6 lx CC
        have x7 := X.out.cell (j := 7) rfl
        have lx := X.out.lt
        by_cases gK : zA < nk
        · have e : (if zA < (nk : Int) then (-1 : Int) else zA - nk) = -1 := if_pos gK
          have CC := szKeps_any Ak nk ck zA w1 (by omega) (by omega) (by omega)
          rw [e] at CC
          have CC := Lib.hid CC
          go_wp2_with fail
          refine CC.out.mono ?_; rintro x w2 ⟨rfl, rfl⟩; go_wp2; go_ret
          exact ⟨-1, rfl, .inl rfl, U.out⟩
        · have e : (if zA < (nk : Int) then (-1 : Int) else zA - nk) = zA - nk := if_neg gK
          have CC := szKeps_any Ak nk ck zA w1 (by omega) (by omega) (by omega)
          rw [e] at CC; obtain ⟨zK, hqK⟩ : ∃ q, zA - (nk : Int) = q := ⟨_, rfl⟩; rw [hqK] at CC
          have CC := Lib.hid CC
          have jK : ¬ zK < 0 := by omega
          have bK : zK ≤ 1048576 := by omega
          have HQK := Lib.hid hqK
          clear hqK e
          go_wp2_with fail
          refine CC.out.mono ?_; rintro x w2 ⟨rfl, rfl⟩; clear x7 lx CC; go_wp2; go_ret
          have := HQW.out
          have := HQA.out
          have := HQK.out
          exact ⟨zK, rfl, .inr ⟨by omega, by omega, ⟨hfew, fun i hi => HP.out.small i hi, by omega, by omega, by omega⟩⟩, U.out⟩
end Go.Proofs.YtjdoealcmokakaaGreat

namespace Go.Proofs.YtjdoealcmokakaaGreat
set_option maxRecDepth 100000
open Go.RowKit
set_option maxHeartbeats 4000000 in
theorem eqHst_any (g h : Hst) (gd : Option Addr) (gdn gdc : Nat) (gw : Option Addr) (gwn gwc : Nat) (ga : Option Addr) (gan gac : Nat) (gk : Option Addr) (gkn gkc : Nat) (hd : Option Addr) (hdn hdc : Nat) (hw : Option Addr) (hwn hwc : Nat) (ha : Option Addr) (han hac : Nat) (hk : Option Addr) (hkn hkc : Nat) (w : World) (hg : HstV w gd gdn gw gwn ga gan gk gkn g) (hh : HstV w hd hdn hw hwn ha han hk hkn h) (hS : SmallD g.done) (hl : gdn ≤ 1000000000 ∧ gwn ≤ 1000000000 ∧ gan ≤ 1000000000 ∧ gkn ≤ 1000000000) : Calls Tryz.prog 13 #[g.v (.slice gd gdn gdc) (.slice gw gwn gwc) (.slice ga gan gac) (.slice gk gkn gkc), h.v (.slice hd hdn hdc) (.slice hw hwn hwc) (.slice ha han hac) (.slice hk hkn hkc)] w fun x w' => x = .returned (.bool (decide (g = h))) ∧ Up w w' := by
  have hf := Lib.hid (show decide (g = h) = (decide (g.now = h.now) && decide (g.ids = h.ids) && decide (g.done = h.done) && decide (g.wait = h.wait) && decide (g.anti = h.anti) && decide (g.keep = h.keep)) by obtain ⟨g0, g1, g2, g3, g4, g5⟩ := g; obtain ⟨h0, h1, h2, h3, h4, h5⟩ := h; rw [Bool.eq_iff_iff]; simp [and_assoc])
  have c0 := fun W => eqCst_any g.now h.now W
  have C1 := Lib.hid (fun W (u : Up w W) => eqDons_any gd hd gdn hdn gdc hdc g.done h.done W hl.1 (hg.done.up u) (hh.done.up u) hS)
  have C2 := Lib.hid (fun W (u : Up w W) => eqI_any gw hw gwn hwn gwc hwc g.wait h.wait W hl.2.1 (hg.wait.up u) (hh.wait.up u))
  have C3 := Lib.hid (fun W (u : Up w W) => eqI_any ga ha gan han gac hac g.anti h.anti W hl.2.2.1 (hg.anti.up u) (hh.anti.up u))
  have C4 := Lib.hid (fun W (u : Up w W) => eqKeps_any gk hk gkn hkn gkc hkc g.keep h.keep W hl.2.2.2 (hg.keep.up u) (hh.keep.up u))
  generalize decide (g = h) = r at hf ⊢
  generalize decide (g.now = h.now) = q0 at hf c0
  generalize decide (g.done = h.done) = q1 at hf C1
  generalize decide (g.wait = h.wait) = q2 at hf C2
  generalize decide (g.anti = h.anti) = q3 at hf C3
  generalize decide (g.keep = h.keep) = q4 at hf C4
  clear hg hh hS hl; obtain ⟨⟨a0, a1, a2⟩, a3, g2, g3, g4, g5⟩ := g; obtain ⟨⟨b0, b1, b2⟩, b3, h2, h3, h4, h5⟩ := h; unfold Hst.v; unfold Cst.v at c0; dsimp only at hf c0 ⊢
  have C0 := Lib.hid c0
  clear c0
  have X := Lib.hid ((Blk.new w #[.int .i64 a0, .int .i64 a1, .int .i64 a2, .int .i64 a3, .slice gd gdn gdc, .slice gw gwn gwc, .slice ga gan gac, .slice gk gkn gkc] 46).alloc (.cells #[.int .i64 b0, .int .i64 b1, .int .i64 b2, .int .i64 b3, .slice hd hdn hdc, .slice hw hwn hwc, .slice ha han hac, .slice hk hkn hkc] 46))
  have Y := Lib.hid (Blk.new (w.alloc (.cells #[.int .i64 a0, .int .i64 a1, .int .i64 a2, .int .i64 a3, .slice gd gdn gdc, .slice gw gwn gwc, .slice ga gan gac, .slice gk gkn gkc] 46)) #[.int .i64 b0, .int .i64 b1, .int .i64 b2, .int .i64 b3, .slice hd hdn hdc, .slice hw hwn hwc, .slice ha han hac, .slice hk hkn hkc] 46)
  simp only [World.size_alloc] at Y
  have U := Lib.hid (((Up.refl w).alloc (.cells #[.int .i64 a0, .int .i64 a1, .int .i64 a2, .int .i64 a3, .slice gd gdn gdc, .slice gw gwn gwc, .slice ga gan gac, .slice gk gkn gkc] 46)).alloc (.cells #[.int .i64 b0, .int .i64 b1, .int .i64 b2, .int .i64 b3, .slice hd hdn hdc, .slice hw hwn hwc, .slice ha han hac, .slice hk hkn hkc] 46))
  go_enter Tryz.func13, Tryz.ntmps13
  go_wp2_with fail
  generalize (w.alloc (.cells #[.int .i64 a0, .int .i64 a1, .int .i64 a2, .int .i64 a3, .slice gd gdn gdc, .slice gw gwn gwc, .slice ga gan gac, .slice gk gkn gkc] 46)).alloc (.cells #[.int .i64 b0, .int .i64 b1, .int .i64 b2, .int .i64 b3, .slice hd hdn hdc, .slice hw hwn hwc, .slice ha han hac, .slice hk hkn hkc] 46) = W at *
  generalize hb1 : w.heap.size + 1 = b1 at *
  generalize hb0 : w.heap.size = b0 at *
  clear hb0 hb1; refine (C0.out _).mono ?_; rintro x w0_ ⟨rfl, u⟩
  have U := Lib.hid (U.out.trans u)
  have X := Lib.hid (X.out.up u)
  have Y := Lib.hid (Y.out.up u)
  clear u
  cases q0
  · have HR := Lib.hid (show r = false by rw [hf.out]; simp)
    clear hf; go_wp2; go_ret
    exact ⟨ret_bool HR.out.symm, U.out⟩
  · skip
    by_cases h3 : a3 ≠ b3
    · have HR := Lib.hid (show r = false by rw [hf.out]; simp [h3])
      have hd3 : (a3 != b3) = true := by simp [h3]
      clear hf
      have x3 := X.out.cell (j := 3) rfl
      have y3 := Y.out.cell (j := 3) rfl
      have lx := X.out.lt
      have ly := Y.out.lt
      go_wp2; go_ret
      exact ⟨ret_bool HR.out.symm, U.out⟩
    · have h3 := Decidable.not_not.1 h3
      subst h3
      have x3 := X.out.cell (j := 3) rfl
      have x4 := X.out.cell (j := 4) rfl
      have y3 := Y.out.cell (j := 3) rfl
      have y4 := Y.out.cell (j := 4) rfl
      have lx := X.out.lt
      have ly := Y.out.lt
      go_wp2_with fail
      refine (C1.out _ U.out).mono ?_; rintro x w1_ ⟨rfl, u⟩
      have U := Lib.hid (U.out.trans u)
      have X := Lib.hid (X.out.up u)
      have Y := Lib.hid (Y.out.up u)
      clear lx ly x3 y3 x4 y4; clear u
      cases q1
      · have HR := Lib.hid (show r = false by rw [hf.out]; simp)
        clear hf; go_wp2; go_ret
        exact ⟨ret_bool HR.out.symm, U.out⟩
      · skip
        have x5 := X.out.cell (j := 5) rfl
        have y5 := Y.out.cell (j := 5) rfl
        have lx := X.out.lt
        have ly := Y.out.lt
        go_wp2_with fail
        refine (C2.out _ U.out).mono ?_; rintro x w2_ ⟨rfl, u⟩
        have U := Lib.hid (U.out.trans u)
        have X := Lib.hid (X.out.up u)
        have Y := Lib.hid (Y.out.up u)
        clear lx ly x5 y5; clear u
        cases q2
        · have HR := Lib.hid (show r = false by rw [hf.out]; simp)
          clear hf; go_wp2; go_ret
          exact ⟨ret_bool HR.out.symm, U.out⟩
        · skip
          have x6 := X.out.cell (j := 6) rfl
          have y6 := Y.out.cell (j := 6) rfl
          have lx := X.out.lt
          have ly := Y.out.lt
          go_wp2_with fail
          refine (C3.out _ U.out).mono ?_; rintro x w3_ ⟨rfl, u⟩
          have U := Lib.hid (U.out.trans u)
          have X := Lib.hid (X.out.up u)
          have Y := Lib.hid (Y.out.up u)
          clear lx ly x6 y6; clear u
          cases q3
          · have HR := Lib.hid (show r = false by rw [hf.out]; simp)
            clear hf; go_wp2; go_ret
            exact ⟨ret_bool HR.out.symm, U.out⟩
          · skip
            have x7 := X.out.cell (j := 7) rfl
            have y7 := Y.out.cell (j := 7) rfl
            have lx := X.out.lt
            have ly := Y.out.lt
            go_wp2_with fail
            refine (C4.out _ U.out).mono ?_; rintro x w4_ ⟨rfl, u⟩
            have U := Lib.hid (U.out.trans u)
            have X := Lib.hid (X.out.up u)
            have Y := Lib.hid (Y.out.up u)
            clear lx ly x7 y7; clear u
            cases q4
            · have HR := Lib.hid (show r = false by rw [hf.out]; simp)
              clear hf; go_wp2; go_ret
              exact ⟨ret_bool HR.out.symm, U.out⟩
            · skip
              have HR := Lib.hid (show r = true by rw [hf.out]; simp)
              clear hf; go_wp2; go_ret
              exact ⟨ret_bool HR.out.symm, U.out⟩
end Go.Proofs.YtjdoealcmokakaaGreat

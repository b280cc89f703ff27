/-
  What leads and explains return, in one sentence: whether what was done leads to what is recorded; for every host that lies in memory.
-/
import Derived.Test.YtlkmhmiamdbhcabGreatDLElst20
import Derived.Test.YtlkmhmiamdbhcabGreatDLElst30
import Derived.Test.YtlkmhmiamdbhcabGreatDLElst32
namespace Go.Proofs.YtlkmhmiamdbhcabGreat
set_option maxRecDepth 100000
open Go.RowKit
theorem eql_cst (a b : Cst) (w : World) : (binOp .eql 41 a.v b.v).run Tryz.prog w = .ok (.bool (eqD a b)) w := by
  have h := equalIn_cst a b w
  unfold Cst.v at h ⊢; rw [run_eql_struct, h]
  rfl
set_option maxHeartbeats 8000000 in
theorem leads_any (mb : Nat) (m : Mdl) (d : Don) (S : Option Addr) (l e : Nat) (nx : Cst) (ids : Int) (w : World) (hM : Mach w mb m) (hm : mdlB m = true) (hi : 0 ≤ ids ∧ ids ≤ 9999) (hmay : cstB d.bf = true → mayB m d.bf d.it.ev = true) (hl : l ≤ 1000000000) (hR : Recs w S l d.sent) :
    Calls Tryz.prog 127 #[.agg #[.map (some mb), .int .i64 m.rules.length, .int .i64 m.til], d.v (.slice S l e), nx.v, .int .i64 ids] w fun x w' => x = .returned (.bool (leadB m ids d nx)) ∧ Up w w' := by
  have CC := fun W => implCst_any d.bf W
  have CD := fun W (u : Up w W) h => show Calls Tryz.prog 139 #[.agg #[.map (some mb), .int .i64 m.rules.length, .int .i64 m.til], d.bf.v, d.it.ev.v] W fun x w' => ∃ v, x = .returned (.tuple #[(doE m d.bf d.it.ev).1.v, v]) ∧ w'.ownsRow W.heap.size 88 6 v (doE m d.bf d.it.ev).2.length (flat (doE m d.bf d.it.ev).2) ∧ Up W w' from process_any mb m.rules.length m d.bf d.it.ev W (hM.up u) h
  have CE := fun B q f bI W hq (u : Up w W) hF hI => equalF_any S l e B q f d.sent (doE m d.bf d.it.ev).2 ids bI W hl hq hi (hR.up u) hF hI
  have CN := fun W => eql_cst (doE m d.bf d.it.ev).1 nx W
  have FEW := doE_len (c := d.bf) (e := d.it.ev) hm
  have gd := guard_cst
  have hlead : leadB m ids d nx = (cstB d.bf && (eqD (doE m d.bf d.it.ev).1 nx && (decide ((doE m d.bf d.it.ev).1.s = d.s) && sameL ids d.sent (doE m d.bf d.it.ev).2))) := by
    unfold leadB; rw [eqD_dec]
  rw [hlead]; clear hlead hM hm hR; obtain ⟨⟨⟨p0, p1, p2, p3, p4, p5⟩, p6⟩, ⟨p7, p8, p9⟩, p10, ps⟩ := d; obtain ⟨n0, n1, n2⟩ := nx; unfold Don.v; unfold Cst.v at CC CD CN ⊢; unfold Evt.v at CD; dsimp only at CC CD CE CN FEW hmay ⊢
  generalize mayB m ⟨p7, p8, p9⟩ ⟨p0, p1, p2, p3, p4, p5⟩ = my at CD hmay
  generalize doE m ⟨p7, p8, p9⟩ ⟨p0, p1, p2, p3, p4, p5⟩ = R at CD CE CN FEW ⊢
  generalize cstB ⟨p7, p8, p9⟩ = b2 at CC hmay ⊢
  obtain ⟨⟨d0, d1, d2⟩, es⟩ := R; dsimp only at CD CE CN FEW ⊢
  generalize sameL ids ps es = b5 at CE ⊢
  generalize heq4 : eqD ⟨d0, d1, d2⟩ ⟨n0, n1, n2⟩ = b4
  have HB4 := Lib.hid heq4
  clear heq4 CN gd
  have CCq := Lib.hid CC
  have CDq := Lib.hid CD
  have CEq := Lib.hid CE
  have FEWq := Lib.hid FEW
  have MYq := Lib.hid hmay
  have XM := Lib.hid ((((Blk.new w #[.map (some mb), .int .i64 m.rules.length, .int .i64 m.til] 125).alloc (.cells #[.int .i64 p0, .int .i64 p1, .int .i64 p2, .int .i64 p3, .int .i64 p4, .int .i64 p5, .int .i64 p6, .int .i64 p7, .int .i64 p8, .int .i64 p9, .int .i64 p10, .slice S l e] 117)).alloc (.cells #[.int .i64 n0, .int .i64 n1, .int .i64 n2] 41)).alloc (.cells #[.int .i64 ids] 3))
  have XD := Lib.hid (((Blk.new (w.alloc (.cells #[.map (some mb), .int .i64 m.rules.length, .int .i64 m.til] 125)) #[.int .i64 p0, .int .i64 p1, .int .i64 p2, .int .i64 p3, .int .i64 p4, .int .i64 p5, .int .i64 p6, .int .i64 p7, .int .i64 p8, .int .i64 p9, .int .i64 p10, .slice S l e] 117).alloc (.cells #[.int .i64 n0, .int .i64 n1, .int .i64 n2] 41)).alloc (.cells #[.int .i64 ids] 3))
  have XN := Lib.hid ((Blk.new ((w.alloc (.cells #[.map (some mb), .int .i64 m.rules.length, .int .i64 m.til] 125)).alloc (.cells #[.int .i64 p0, .int .i64 p1, .int .i64 p2, .int .i64 p3, .int .i64 p4, .int .i64 p5, .int .i64 p6, .int .i64 p7, .int .i64 p8, .int .i64 p9, .int .i64 p10, .slice S l e] 117)) #[.int .i64 n0, .int .i64 n1, .int .i64 n2] 41).alloc (.cells #[.int .i64 ids] 3))
  have XI := Lib.hid (Blk.new (((w.alloc (.cells #[.map (some mb), .int .i64 m.rules.length, .int .i64 m.til] 125)).alloc (.cells #[.int .i64 p0, .int .i64 p1, .int .i64 p2, .int .i64 p3, .int .i64 p4, .int .i64 p5, .int .i64 p6, .int .i64 p7, .int .i64 p8, .int .i64 p9, .int .i64 p10, .slice S l e] 117)).alloc (.cells #[.int .i64 n0, .int .i64 n1, .int .i64 n2] 41)) #[.int .i64 ids] 3)
  simp only [World.size_alloc] at XD XN XI
  have U0 := Lib.hid (((((Up.refl w).alloc (.cells #[.map (some mb), .int .i64 m.rules.length, .int .i64 m.til] 125)).alloc (.cells #[.int .i64 p0, .int .i64 p1, .int .i64 p2, .int .i64 p3, .int .i64 p4, .int .i64 p5, .int .i64 p6, .int .i64 p7, .int .i64 p8, .int .i64 p9, .int .i64 p10, .slice S l e] 117)).alloc (.cells #[.int .i64 n0, .int .i64 n1, .int .i64 n2] 41)).alloc (.cells #[.int .i64 ids] 3))
  clear CC CD CE FEW hmay
  have k7 := XD.out.cell (j := 7) rfl
  have k8 := XD.out.cell (j := 8) rfl
  have k9 := XD.out.cell (j := 9) rfl
  have lk := XD.out.lt
  go_enter Tryz.func127, Tryz.ntmps127
  go_wp2_with fail
  clear k7 k8 k9 lk; refine (CCq.out _).mono ?_; rintro x wA ⟨rfl, uA⟩
  have UA := Lib.hid (U0.out.trans uA)
  replace XM := Lib.hid (XM.out.up uA)
  replace XD := Lib.hid (XD.out.up uA)
  replace XN := Lib.hid (XN.out.up uA)
  replace XI := Lib.hid (XI.out.up uA)
  clear uA U0
  cases b2
  · go_wp2
    go_ret
    exact ⟨rfl, UA.out⟩
  · have hmy := MYq.out rfl
    subst hmy
    have h0 := XM.out.cell (j := 0) rfl
    have h1 := XM.out.cell (j := 1) rfl
    have h2 := XM.out.cell (j := 2) rfl
    have hl_ := XM.out.lt
    have k0 := XD.out.cell (j := 0) rfl
    have k1 := XD.out.cell (j := 1) rfl
    have k2 := XD.out.cell (j := 2) rfl
    have k3 := XD.out.cell (j := 3) rfl
    have k4 := XD.out.cell (j := 4) rfl
    have k5 := XD.out.cell (j := 5) rfl
    have k7 := XD.out.cell (j := 7) rfl
    have k8 := XD.out.cell (j := 8) rfl
    have k9 := XD.out.cell (j := 9) rfl
    have lk := XD.out.lt
    go_wp2_with fail
    clear h0 h1 h2 hl_ k0 k1 k2 k3 k4 k5 k7 k8 k9 lk; refine (CDq.out _ UA.out trivial).mono ?_; rintro x wB ⟨v, rfl, ow, uB⟩; obtain ⟨hln, A, c, rfl, hc1, hc2⟩ := own_slice ow
    have EV := Lib.hid (own_evs ow)
    have UB := Lib.hid (UA.out.trans uB)
    replace XD := Lib.hid (XD.out.up uB)
    replace XN := Lib.hid (XN.out.up uB)
    replace XI := Lib.hid (XI.out.up uB)
    generalize hq : es.length = q at EV
    have hq2 : q ≤ 1000000000 := by rw [← hq]; have := FEWq.out; omega
    clear ow uB hln hc1 hc2 XM UA
    have k10 := XD.out.cell (j := 10) rfl
    have k11 := XD.out.cell (j := 11) rfl
    have lk := XD.out.lt
    have m0 := XN.out.cell (j := 0) rfl
    have m1 := XN.out.cell (j := 1) rfl
    have m2 := XN.out.cell (j := 2) rfl
    have lm := XN.out.lt
    by_cases e0 : d0 = n0
    · by_cases e1 : d1 = n1
      · by_cases e2 : d2 = n2
        · subst e0 e1 e2
          obtain rfl : b4 = true := by rw [← HB4.out]; exact eqD_refl _
          by_cases h10 : d0 = p10
          · have HB := Lib.hid (show decide (d0 = p10) = true from decide_eq_true h10)
            go_wp2_with fail
            refine (CEq.out _ _ _ _ _ hq2 (UB.out.alloc _) (EV.out.up ((Up.refl _).alloc _)) (XI.out.up ((Up.refl _).alloc _))).mono ?_; rintro x wC ⟨rfl, uC⟩; go_wp2; go_ret
            exact ⟨ret_bool (by rw [HB.out]; simp), (UB.out.alloc _).trans uC⟩
          · have HB := Lib.hid (show decide (d0 = p10) = false from decide_eq_false h10)
            go_wp2; go_ret
            exact ⟨ret_bool (by rw [HB.out]; simp), UB.out.alloc _⟩
        · obtain rfl : b4 = false := by rw [← HB4.out]; simp [eqD, e2]
          go_wp2; go_ret
          exact ⟨rfl, UB.out.alloc _⟩
      · obtain rfl : b4 = false := by rw [← HB4.out]; simp [eqD, e1]
        go_wp2; go_ret
        exact ⟨rfl, UB.out.alloc _⟩
    · obtain rfl : b4 = false := by rw [← HB4.out]; simp [eqD, e0]
      go_wp2; go_ret
      exact ⟨rfl, UB.out.alloc _⟩
theorem its_may (many til comp : Int) (ds : List Don) (j : Nat) (h : (itsOf ds).all (itemForB many til comp) = true) (hj : j < ds.length) : itemForB many til comp (ds.getD j default).it = true := by
  refine List.all_eq_true.1 h _ ?_; unfold itsOf; rw [show ds.getD j default = ds[j] by simp [List.getD, hj]]
  exact List.mem_map.2 ⟨_, List.getElem_mem hj, rfl⟩
set_option maxHeartbeats 8000000 in
theorem explains_any (mb : Nat) (m : Mdl) (comp : Int) (w0 w1 w2 ids : Int) (Ad : Option Addr) (nd cd : Nat) (Aw : Option Addr) (nw cw : Nat) (Aa : Option Addr) (na ca : Nat) (Ak : Option Addr) (nk ck : Nat) (ds : List Don) (w : World) (hM : Mach w mb m) (hm : mdlB m = true) (hi : 0 ≤ ids ∧ ids ≤ 9999) (hD : Dons w Ad nd ds) (hl : nd ≤ 4194304) (hS : SmallD ds) (hA : (itsOf ds).all (itemForB m.rules.length m.til comp) = true) :
    Calls Tryz.prog 101 #[.agg #[.map (some mb), .int .i64 m.rules.length, .int .i64 m.til], .agg #[.int .i64 w0, .int .i64 w1, .int .i64 w2, .int .i64 ids, .slice Ad nd cd, .slice Aw nw cw, .slice Aa na ca, .slice Ak nk ck]] w fun x w' => x = .returned (.bool (explB m ids ⟨w0, w1, w2⟩ ds)) ∧ Up w w' := by
  have HE := Lib.hid hD
  have LE := Lib.hid hD.1
  have SM := Lib.hid hS
  have CL := Lib.hid (fun d S l e nx W (u : Up w W) hmay hl hR => leads_any mb m d S l e nx ids W (hM.up u) hm hi hmay hl hR)
  have MAY := Lib.hid (fun j (h : j < ds.length) => itemForB_may (m := m) (comp := comp) (c := (ds.getD j default).bf) (its_may m.rules.length m.til comp ds j hA h) hm)
  have SD := Lib.hid (fun j h => explB_drop m ids ⟨w0, w1, w2⟩ ds j h)
  have SE := Lib.hid (fun j h => explB_end m ids ⟨w0, w1, w2⟩ ds j h)
  generalize hdn : explB m ids ⟨w0, w1, w2⟩ ds = dn
  have H0 := Lib.hid (show explB m ids ⟨w0, w1, w2⟩ (ds.drop 0) = dn from hdn)
  have X := Lib.hid ((Blk.new w #[.map (some mb), .int .i64 m.rules.length, .int .i64 m.til] 125).alloc (.cells #[.int .i64 w0, .int .i64 w1, .int .i64 w2, .int .i64 ids, .slice Ad nd cd, .slice Aw nw cw, .slice Aa na ca, .slice Ak nk ck] 46))
  have Y := Lib.hid (Blk.new (w.alloc (.cells #[.map (some mb), .int .i64 m.rules.length, .int .i64 m.til] 125)) #[.int .i64 w0, .int .i64 w1, .int .i64 w2, .int .i64 ids, .slice Ad nd cd, .slice Aw nw cw, .slice Aa na ca, .slice Ak nk ck] 46)
  simp only [World.size_alloc] at Y
  have U0 := Lib.hid (((Up.refl w).alloc (.cells #[.map (some mb), .int .i64 m.rules.length, .int .i64 m.til] 125)).alloc (.cells #[.int .i64 w0, .int .i64 w1, .int .i64 w2, .int .i64 ids, .slice Ad nd cd, .slice Aw nw cw, .slice Aa na ca, .slice Ak nk ck] 46))
  clear hD hS hM hdn hm hi hA
  have y4 := Y.out.cell (j := 4) rfl
  have lY_ := Y.out.lt
  go_enter Tryz.func101, Tryz.ntmps101
  go_wp2; clear y4 lY_
  generalize (w.alloc (.cells #[.map (some mb), .int .i64 m.rules.length, .int .i64 m.til] 125)).alloc (.cells #[.int .i64 w0, .int .i64 w1, .int .i64 w2, .int .i64 ids, .slice Ad nd cd, .slice Aw nw cw, .slice Aa na ca, .slice Ak nk ck] 46) = W at *
  generalize hb1 : w.heap.size + 1 = bH at *
  generalize hb0 : w.heap.size = bM at *
  clear hb0 hb1
  go_loopw [11] (fun i wr => (∃ j : Nat, j ≤ nd ∧ i = .int .i64 j ∧ Hid (explB m ids ⟨w0, w1, w2⟩ (ds.drop j) = dn)) ∧ Up W wr) (fun i _ => nd - (intOf i).toNat)
  case atStart => exact ⟨⟨0, by omega, rfl, H0⟩, Up.refl _⟩
  case round =>
    obtain ⟨⟨j, hj, rfl, HR⟩, ur⟩ := hrel
    have ur2 := Lib.hid ur
    replace X := Lib.hid (X.out.up ur)
    replace Y := Lib.hid (Y.out.up ur)
    have UR := Lib.hid (U0.out.trans ur)
    have i6 : IntKind.i64.wrap ((j : Int) + 1) = (j : Int) + 1 := IntWalk.i64_in _ (by omega)
    by_cases hlt : j < nd
    · have i4 : (j : Int) < nd := by omega
      have i5 : j < nd := hlt
      obtain ⟨b, off, hA, hb, hc⟩ := (HE.out.up UR.out).2.2 (by omega); subst hA
      have HC := Lib.hid hc
      have S := SD.out j (by rw [LE.out]; exact hlt)
      rw [HR.out] at S
      have a0 := hc j hlt
      have sm := SM.out j (by rw [LE.out]; exact hlt)
      have my := MAY.out j (by rw [LE.out]; exact hlt)
      rw [LE.out] at S; clear hc ur HR
      generalize hnext : (if j + 1 < nd then (ds.getD (j + 1) default).bf else ⟨w0, w1, w2⟩) = nxt at S
      have HNX := Lib.hid hnext
      clear hnext
      generalize hp : ds.getD j default = p at S a0 sm my
      clear hp; obtain ⟨S3, l3, e3, a0, -, hr3⟩ := a0
      have hl3 : l3 ≤ 1000000000 := by rw [← hr3.1]; omega
      have CLp := fun W0 (u : Up wr W0) (uw : Up w W0) => CL.out p S3 l3 e3 nxt W0 uw my hl3 (hr3.up u)
      clear hr3 sm my
      generalize leadB m ids p nxt = r at S CLp
      obtain ⟨⟨⟨p0, p1, p2, p3, p4, p5⟩, p6⟩, ⟨p7, p8, p9⟩, p10, ps⟩ := p; obtain ⟨n0, n1, n2⟩ := nxt; unfold Don.v Cst.v at CLp; dsimp only at CLp a0
      have CLq := Lib.hid (fun W0 (uw : Up w W0) (u : Up wr W0) => CLp W0 u uw)
      replace S := Lib.hid S
      clear CLp; obtain ⟨z0, z1, z2, z3, z4, z5, z6, z7, z8, z9, z10, z11⟩ := a0
      have x0 := X.out.cell (j := 0) rfl
      have x1 := X.out.cell (j := 1) rfl
      have x2 := X.out.cell (j := 2) rfl
      have lX_ := X.out.lt
      have y0 := Y.out.cell (j := 0) rfl
      have y1 := Y.out.cell (j := 1) rfl
      have y2 := Y.out.cell (j := 2) rfl
      have y3 := Y.out.cell (j := 3) rfl
      have y4 := Y.out.cell (j := 4) rfl
      have lY_ := Y.out.lt
      by_cases hnj : j + 1 < nd
      · have g1 : (j : Int) + 1 < nd := by omega
        have a1 := HC.out (j + 1) hnj
        obtain ⟨Q4, q4, f4, ⟨-, -, -, -, -, -, -, t7, t8, t9, -⟩, -, -⟩ := a1
        have hnx : (ds.getD (j + 1) default).bf = ⟨n0, n1, n2⟩ := by have := HNX.out; rwa [if_pos hnj] at this
        rw [hnx] at t7 t8 t9; dsimp only at t7 t8 t9; clear hnx
        go_wp2_with fail
        refine (CLq.out _ (U0.out.trans ((ur2.out.alloc _).alloc _)) (((Up.refl _).alloc _).alloc _)).mono ?_; rintro x wA ⟨rfl, uA⟩
        have UN := Lib.hid (((ur2.out.alloc _).alloc _).trans uA)
        clear uA
        cases r
        · have HF := Lib.hid (show dn = false by rw [S.out]; rfl)
          go_wp2; go_ret
          exact ⟨ret_bool HF.out.symm, U0.out.trans UN.out⟩
        · have HN := Lib.hid (show explB m ids ⟨w0, w1, w2⟩ (ds.drop (j + 1)) = dn by rw [S.out]; rfl)
          go_wp2
          go_roundw
          case rel => exact ⟨⟨j + 1, by omega, by go_num, HN⟩, UN.out⟩
          case measure => simp [intOf]; omega
      · have g1 : ¬ ((j : Int) + 1 < nd) := by omega
        have hnx : (⟨w0, w1, w2⟩ : Cst) = ⟨n0, n1, n2⟩ := by have := HNX.out; rwa [if_neg hnj] at this
        injection hnx with q0 q1 q2
        subst q0 q1 q2
        go_wp2_with fail
        refine (CLq.out _ (U0.out.trans ((ur2.out.alloc _).alloc _)) (((Up.refl _).alloc _).alloc _)).mono ?_; rintro x wA ⟨rfl, uA⟩
        have UN := Lib.hid (((ur2.out.alloc _).alloc _).trans uA)
        clear uA
        cases r
        · have HF := Lib.hid (show dn = false by rw [S.out]; rfl)
          go_wp2; go_ret
          exact ⟨ret_bool HF.out.symm, U0.out.trans UN.out⟩
        · have HN := Lib.hid (show explB m ids ⟨w0, w1, w2⟩ (ds.drop (j + 1)) = dn by rw [S.out]; rfl)
          go_wp2
          go_roundw
          case rel => exact ⟨⟨j + 1, by omega, by go_num, HN⟩, UN.out⟩
          case measure => simp [intOf]; omega
    · obtain rfl : j = nd := by omega
      have i4 : ¬ (j : Int) < j := by omega
      have HT := Lib.hid (show dn = true by rw [← HR.out]; exact SE.out j (by rw [LE.out]; omega))
      clear ur; go_wp2; go_ret
      exact ⟨ret_bool HT.out.symm, UR.out⟩
end Go.Proofs.YtlkmhmiamdbhcabGreat

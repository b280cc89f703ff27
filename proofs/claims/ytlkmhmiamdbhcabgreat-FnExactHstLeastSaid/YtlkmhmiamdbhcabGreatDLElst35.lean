/-
  What host.least and HstLeast of the program return, in one sentence: the least time of what waits, is called off or is kept, and a time behind all else; for every host that lies in memory.
-/
import Derived.Test.YtlkmhmiamdbhcabGreatDLElst23
import Derived.Test.YtlkmhmiamdbhcabGreatDLElst29
import Derived.Test.YtlkmhmiamdbhcabGreatDLElst34
namespace Go.Proofs.YtlkmhmiamdbhcabGreat
set_option maxRecDepth 100000
open Go.RowKit
set_option maxHeartbeats 3000000 in
theorem least_any (lo g bm mb : Nat) (many til comp c0 c1 c2 ids : Int) (v : Value) (Aq : Option Addr) (cq : Nat) (Ar : Option Addr) (cr nd nw N nk : Nat) (ds : List Don) (ws vs : List Rec) (ks : List Kep) (w : World) (h : HostW w lo g bm mb many til comp c0 c1 c2 ids v (.slice Aq nw cq) (.slice Ar nk cr) nd nw N nk ds ws vs ks) (ht : -1000000 ≤ til ∧ til ≤ 1000000) (hl : nw ≤ 1048576 ∧ nk ≤ 1048576) (hO : ∀ r, r ∈ vs → r.ok) :
    Calls Tryz.prog 35 #[.pointer (some ⟨g, 0, none⟩)] w fun x w' => x = .returned (.int .i64 (minL (minL (minL (til + 1) (ws.map fun r => r.ev.t)) (vs.map fun r => r.ev.t)) (ks.map fun k => k.sent.ev.t))) ∧ Up w w' := by
  have HH := Lib.hid h
  have HT := Lib.hid ht
  have HL := Lib.hid hl
  have HO := Lib.hid hO
  have HW := Lib.hid (own7_recs h.wait)
  have HK := Lib.hid (own13_keps h.keep)
  have ML := Lib.hid (fun (t : Int) (xs : List Int) k h => minL_take t xs k h)
  have h0 := h.blk.cell (j := 0) rfl
  have h1 := h.blk.cell (j := 1) rfl
  have h2 := h.blk.cell (j := 2) rfl
  have h10 := h.blk.cell (j := 10) rfl
  have lg := h.blk.lt
  have tw : IntKind.i64.wrap (til + 1) = til + 1 := IntWalk.i64_in _ (by omega)
  clear h hl ht hO
  generalize hf1 : (ws.map fun r => r.ev.t) = F1
  generalize hf2 : (vs.map fun r => r.ev.t) = F2
  generalize hf3 : (ks.map fun k => k.sent.ev.t) = F3
  have E1 := Lib.hid hf1
  have E2 := Lib.hid hf2
  have E3 := Lib.hid hf3
  have L1 := Lib.hid (show F1.length = nw by rw [← hf1, List.length_map]; exact HW.out.1)
  have L3 := Lib.hid (show F3.length = nk by rw [← hf3, List.length_map]; exact HK.out.1)
  clear hf1 hf2 hf3
  go_enter Tryz.func35, Tryz.ntmps35
  go_wp2
  go_loopw [3, 19] (fun t i wr => (∃ k : Nat, k ≤ nw ∧ i = .int .i64 k ∧ t = .int .i64 (minL (til + 1) (F1.take k))) ∧ Up w wr) (fun _ i _ => nw - (intOf i).toNat)
  case atStart => exact ⟨⟨0, by omega, rfl, rfl⟩, by first | exact Up.refl _ | exact (Up.refl _).alloc _⟩
  case round =>
    obtain ⟨⟨k, hk, rfl, rfl⟩, ur⟩ := hrel
    have UR := Lib.hid ur
    clear ur
    by_cases hlt : k < nw
    · obtain ⟨b, off, hA, hb, hc⟩ := (HW.out.up UR.out).2 (by omega)
      subst hA
      have a0 := hc k hlt
      have mt := ML.out (til + 1) F1 k (by rw [L1.out]; exact hlt)
      have pt : F1.getD k 0 = (ws.getD k default).ev.t := by
        have e : k < ws.length := by rw [HW.out.1]; exact hlt
        rw [← E1.out]; simp [List.getD, e]
      rw [pt] at mt; clear hc pt
      generalize ws.getD k default = p at a0 mt
      obtain ⟨⟨p0, p1, p2, p3, p4, p5⟩, p6⟩ := p; obtain ⟨z0, z1, z2, z3, z4, z5, z6⟩ := a0; dsimp only at z0 z1 z2 z3 z4 z5 z6 mt
      generalize minL (til + 1) (F1.take k) = z at mt ⊢
      have MT := Lib.hid mt
      clear mt
      have hl1 := HL.out.1
      have i4 : (k : Int) < nw := by omega
      have i6 : IntKind.i64.wrap ((k : Int) + 1) = (k : Int) + 1 := IntWalk.i64_in _ (by omega)
      generalize hy : (if p0 < z then p0 else z) = y at MT
      have ub := Lib.hid (UR.out.alloc (.cells #[.int .i64 p0, .int .i64 p1, .int .i64 p2, .int .i64 p3, .int .i64 p4, .int .i64 p5, .int .i64 p6] 109))
      clear hl1; go_wp2
      go_roundw
      case rel => exact ⟨⟨k + 1, by omega, by go_num, by rw [MT.out]⟩, ub.out⟩
      case measure => simp [intOf]; omega
    · obtain rfl : k = nw := by omega
      have i4 : ¬ (k : Int) < k := by omega
      have e1 : F1.take k = F1 := List.take_of_length_le (by rw [L1.out]; exact Nat.le_refl _)
      rw [e1]; clear e1
      have h11 := (HH.out.blk.up UR.out).cell (j := 11) rfl
      have lg1 := (HH.out.blk.up UR.out).lt
      have SA := Lib.hid (HH.out.anti.up UR.out)
      generalize ht1 : minL (til + 1) F1 = t1
      have T1 := Lib.hid ht1
      clear ht1
      go_wp2_with (at_range; refine wpList_range_I rfl _ rfl _ rfl bm N vs rfl SA.out ?_; intro w0 D hr0 hS0 u0 hs0)
      try go_frame
      have HS0 := Lib.hid hS0
      have HR0 := Lib.hid hr0
      have U0 := Lib.hid (UR.out.trans u0)
      have RG := Lib.hid UR.out.size
      generalize wr.heap.size = r at *
      clear hS0 hr0 u0 hs0 UR SA h11 lg1
      go_loopw [3] (fun t wr => (∃ left cnt z, IRng wr bm r N vs D left cnt ∧ t = .int .i64 z ∧ z ≤ t1 ∧ (∀ x, x ∈ vs → ∀ kl, KeyIs x kl → left kl = false → z ≤ x.ev.t) ∧ (z = t1 ∨ z ∈ F2)) ∧ Up w wr) (fun _ wr => wr.rangeLeft bm r)
      case atStart => exact ⟨⟨_, _, _, HR0.out, rfl, Int.le_refl _, (fun x hx kl hk hf => by rw [HS0.out x hx kl hk] at hf; cases hf), .inl rfl⟩, U0.out⟩
      case round =>
        obtain ⟨⟨left, cnt, z, hr, rfl, h4, h5, h6⟩, ur⟩ := hrel
        have UR := Lib.hid ur
        have HR := Lib.hid hr
        have H4 := Lib.hid h4
        have H5 := Lib.hid h5
        have H6 := Lib.hid h6
        clear ur hr h4 h5 h6 HR0 U0
        go_wp2_with (at_next; refine wpList_next_I rfl _ rfl _ rfl bm r N vs D left cnt rfl HR.out ?_ ?_)
        · intro hl0
          have LZ := Lib.hid (show z = minL t1 F2 from minL_one H4.out (fun y hy => by
            rw [← E2.out] at hy; obtain ⟨x, hx, rfl⟩ := List.mem_map.1 hy; obtain ⟨kl, hk⟩ := item_ex x (HO.out x hx)
            exact H5.out x hx kl hk (hl0 kl)) H6.out)
          clear hl0 HR H4 H5 H6
          have h12 := (HH.out.blk.up UR.out).cell (j := 12) rfl
          have lg1 := (HH.out.blk.up UR.out).lt
          go_wp2; clear h12 lg1
          go_loopw [3, 48] (fun t i wr => (∃ k : Nat, k ≤ nk ∧ i = .int .i64 k ∧ t = .int .i64 (minL z (F3.take k))) ∧ Up w wr) (fun _ i _ => nk - (intOf i).toNat)
          case atStart => exact ⟨⟨0, by omega, rfl, rfl⟩, UR.out⟩
          case round =>
            obtain ⟨⟨k, hk, rfl, rfl⟩, ur⟩ := hrel
            have UQ := Lib.hid ur
            clear ur UR
            by_cases hlt : k < nk
            · obtain ⟨b, off, hA, hb, hc⟩ := (HK.out.up UQ.out).2 (by omega)
              subst hA
              have a0 := hc k hlt
              have mt := ML.out z F3 k (by rw [L3.out]; exact hlt)
              have pt : F3.getD k 0 = (ks.getD k default).sent.ev.t := by
                have e : k < ks.length := by rw [HK.out.1]; exact hlt
                rw [← E3.out]; simp [List.getD, e]
              rw [pt] at mt; clear hc pt
              generalize ks.getD k default = p at a0 mt
              obtain ⟨⟨p0, p1, p2, p3, p4, p5⟩, ⟨⟨p6, p7, p8, p9, p10, p11⟩, p12⟩⟩ := p; obtain ⟨z0, z1, z2, z3, z4, z5, z6, z7, z8, z9, z10, z11, z12⟩ := a0; dsimp only at z0 z1 z2 z3 z4 z5 z6 z7 z8 z9 z10 z11 z12 mt
              generalize minL z (F3.take k) = z' at mt ⊢
              have MT := Lib.hid mt
              clear mt
              have hl1 := HL.out.2
              have i4 : (k : Int) < nk := by omega
              have i6 : IntKind.i64.wrap ((k : Int) + 1) = (k : Int) + 1 := IntWalk.i64_in _ (by omega)
              generalize hy : (if p6 < z' then p6 else z') = y at MT
              have ub := Lib.hid (UQ.out.alloc (.cells #[.int .i64 p0, .int .i64 p1, .int .i64 p2, .int .i64 p3, .int .i64 p4, .int .i64 p5, .int .i64 p6, .int .i64 p7, .int .i64 p8, .int .i64 p9, .int .i64 p10, .int .i64 p11, .int .i64 p12] 111))
              clear hl1; go_wp2
              go_roundw
              case rel => exact ⟨⟨k + 1, by omega, by go_num, by rw [MT.out]⟩, ub.out⟩
              case measure => simp [intOf]; omega
            · obtain rfl : k = nk := by omega
              have i4 : ¬ (k : Int) < k := by omega
              have e1 : F3.take k = F3 := List.take_of_length_le (by rw [L3.out]; exact Nat.le_refl _)
              rw [e1]; clear e1
              have LE := Lib.hid (show minL z F3 = minL (minL (minL (til + 1) F1) F2) F3 by rw [LZ.out, T1.out])
              generalize minL z F3 = res at LE ⊢
              go_wp2; go_ret
              exact ⟨ret_int LE.out, UQ.out⟩
        · intro x vv kl w1 cnt1 hx hk hlx hrg1 hlt1 hm1 hen
          have HX := Lib.hid hx
          have HKL := Lib.hid hk
          have HR1 := Lib.hid hrg1
          have HLT := Lib.hid hlt1
          have UM := Lib.hid (hm1.up UR.out RG.out)
          obtain ⟨⟨p0, p1, p2, p3, p4, p5⟩, p6⟩ := x; unfold Rec.v at hen ⊢; dsimp only at hen ⊢; clear hx hk hrg1 hlt1 hm1 hlx
          generalize hy : (if p0 < z then p0 else z) = y
          have HY := Lib.hid hy
          have NR := Lib.hid (HR1.out.up ((Up.refl _).alloc (.cells #[.int .i64 p0, .int .i64 p1, .int .i64 p2, .int .i64 p3, .int .i64 p4, .int .i64 p5, .int .i64 p6] 109)))
          go_wp2
          go_roundw
          case rel =>
            refine ⟨⟨_, _, y, NR.out, rfl, ?_, ?_, ?_⟩, UM.out.alloc _⟩
            · have := H4.out; rw [← HY.out]; split <;> omega
            · intro x hx kl2 hk2 hf
              rcases left_step HKL.out hk2 hf with h | rfl
              · have := H5.out x hx kl2 hk2 h
                rw [← HY.out]
                split <;> omega
              · show y ≤ p0
                rw [← HY.out]
                split <;> omega
            · rw [← HY.out]
              split
              · exact .inr (by rw [← E2.out]; exact List.mem_map.2 ⟨_, HX.out, rfl⟩)
              · exact H6.out
          case measure => rw [NR.out.left_eq, HR.out.left_eq]; exact HLT.out
set_option maxHeartbeats 3000000 in
theorem newHost_any (A : Option Addr) (n c : Nat) (B : Option Addr) (k d : Nat) (m : Mdl) (comp w0 w1 w2 ids : Int) (Ad : Option Addr) (nd cd : Nat) (Aw : Option Addr) (nw cw : Nat) (Aa : Option Addr) (na ca : Nat) (Ak : Option Addr) (nk ck : Nat) (ds : List Don) (ws vs : List Rec) (ks : List Kep) (w : World) (hM : MdlV w A n B k m) (hD : Dons w Ad nd ds) (hW : Recs w Aw nw ws) (hA : Recs w Aa na vs) (hK : Keps w Ak nk ks) (hl : nd ≤ 1048576 ∧ nw ≤ 1048576 ∧ na ≤ 1048576 ∧ nk ≤ 1048576) (hS : SmallD ds) :
    Calls Tryz.prog 34 #[.agg #[.slice A n c, .slice B k d, .int .i64 m.til], .int .i64 comp, .agg #[.int .i64 w0, .int .i64 w1, .int .i64 w2, .int .i64 ids, .slice Ad nd cd, .slice Aw nw cw, .slice Aa na ca, .slice Ak nk ck]] w fun x w' =>
      ((mdlB m && hostB m comp ⟨⟨w0, w1, w2⟩, ids, ds, ws, vs, ks⟩) = false ∧ x = .returned (.tuple #[.pointer none, .bool false]) ∨
      (mdlB m && hostB m comp ⟨⟨w0, w1, w2⟩, ids, ds, ws, vs, ks⟩) = true ∧ ∃ mb g bm v Aq cq Ar cr, x = .returned (.tuple #[.pointer (some ⟨g, 0, none⟩), .bool true]) ∧ Mach w' mb m ∧ HostW w' w.heap.size g bm mb m.rules.length m.til comp w0 w1 w2 ids v (.slice Aq nw cq) (.slice Ar nk cr) nd nw na nk ds ws vs ks) ∧ Up w w' := by
  have CH := Lib.hid (fun mb W (u : Up w W) (hm : mdlB m = true) (hMa : Mach W mb m) => hosts_any mb m comp w0 w1 w2 ids Ad nd cd Aw nw cw Aa na ca Ak nk ck ds ws vs ks W hMa hm (mdlB_few hm).2 (hD.up u) (hW.up u) (hA.up u) (hK.up u) hl hS)
  have CG := Lib.hid (fun mb W (u : Up w W) hO => host_any mb m.rules.length m.til comp w0 w1 w2 ids Ad nd cd Aw nw cw Aa na ca Ak nk ck ds ws vs ks W (hD.up u) (hW.up u) (hA.up u) (hK.up u) hl hS hO)
  have OKV := Lib.hid (fun (h : hostB m comp ⟨⟨w0, w1, w2⟩, ids, ds, ws, vs, ks⟩ = true) => anti_ok h)
  have CN := Lib.hid (fun W (u : Up w W) => newMachine_any A n c B k d m W (hM.up u))
  have X2 := Lib.hid (Blk.new (w.alloc (.cells #[.slice A n c, .slice B k d, .int .i64 m.til] 39)) #[.int .i64 w0, .int .i64 w1, .int .i64 w2, .int .i64 ids, .slice Ad nd cd, .slice Aw nw cw, .slice Aa na ca, .slice Ak nk ck] 46)
  simp only [World.size_alloc] at X2
  have U := Lib.hid (((Up.refl w).alloc (.cells #[.slice A n c, .slice B k d, .int .i64 m.til] 39)).alloc (.cells #[.int .i64 w0, .int .i64 w1, .int .i64 w2, .int .i64 ids, .slice Ad nd cd, .slice Aw nw cw, .slice Aa na ca, .slice Ak nk ck] 46))
  clear hM hD hW hA hK hl hS
  generalize hostB m comp ⟨⟨w0, w1, w2⟩, ids, ds, ws, vs, ks⟩ = hb at CH OKV ⊢
  generalize hmb : mdlB m = gm at ⊢
  have HG := Lib.hid hmb
  clear hmb
  go_enter Tryz.func34, Tryz.ntmps34
  go_wp2_with fail
  refine (CN.out _ U.out).mono ?_; rintro x wN ⟨u1, ⟨hg, rfl⟩ | ⟨hg, bm, rfl, hb0, hMa⟩⟩
  · obtain rfl : gm = false := HG.out.symm.trans hg
    have U1 := Lib.hid ((U.out.trans u1).alloc (.cells #[.map none, .int .i64 0, .int .i64 0] 125))
    clear u1 CH CN; go_wp2
    exact bodyPost_ret (v := .tuple #[.pointer none, .bool false]) (by simp [results, Tryz.results34, go_sem]) rfl ⟨.inl ⟨rfl, rfl⟩, U1.out⟩
  · obtain rfl : gm = true := HG.out.symm.trans hg
    have CHm := Lib.hid (fun W (u : Up w W) (u' : Up wN W) => CH.out bm W u hg (hMa.up u'))
    have MA := Lib.hid hMa
    have U1 := Lib.hid ((U.out.trans u1).alloc (.cells #[.map (some bm), .int .i64 m.rules.length, .int .i64 m.til] 125))
    have X3 := Lib.hid (Blk.new wN #[.map (some bm), .int .i64 m.rules.length, .int .i64 m.til] 125)
    have X2 := Lib.hid ((X2.out.up u1).alloc (.cells #[.map (some bm), .int .i64 m.rules.length, .int .i64 m.til] 125))
    clear u1 hb0 hMa hg CH CN U
    have z0 := X2.out.cell (j := 0) rfl
    have z1 := X2.out.cell (j := 1) rfl
    have z2 := X2.out.cell (j := 2) rfl
    have z3 := X2.out.cell (j := 3) rfl
    have z4 := X2.out.cell (j := 4) rfl
    have z5 := X2.out.cell (j := 5) rfl
    have z6 := X2.out.cell (j := 6) rfl
    have z7 := X2.out.cell (j := 7) rfl
    have lz := X2.out.lt
    go_wp2_with fail
    clear z0 z1 z2 z3 z4 z5 z6 z7 lz; refine (CHm.out _ U1.out ((Up.refl _).alloc _)).mono ?_; rintro x w2 ⟨rfl, u2⟩
    have U2 := Lib.hid (U1.out.trans u2)
    have M2 := Lib.hid ((MA.out.up ((Up.refl _).alloc _)).up u2)
    replace X2 := Lib.hid (X2.out.up u2)
    replace X3 := Lib.hid (X3.out.up u2)
    clear u2 U1 CHm MA
    cases hb
    · go_wp2
      exact bodyPost_ret (v := .tuple #[.pointer none, .bool false]) (by simp [results, Tryz.results34, go_sem]) rfl ⟨.inl ⟨rfl, rfl⟩, U2.out⟩
    · have OK1 := Lib.hid (OKV.out rfl)
      have z0 := X2.out.cell (j := 0) rfl
      have z1 := X2.out.cell (j := 1) rfl
      have z2 := X2.out.cell (j := 2) rfl
      have z3 := X2.out.cell (j := 3) rfl
      have z4 := X2.out.cell (j := 4) rfl
      have z5 := X2.out.cell (j := 5) rfl
      have z6 := X2.out.cell (j := 6) rfl
      have z7 := X2.out.cell (j := 7) rfl
      have lz := X2.out.lt
      have y0 := X3.out.cell (j := 0) rfl
      have y1 := X3.out.cell (j := 1) rfl
      have y2 := X3.out.cell (j := 2) rfl
      have ly := X3.out.lt
      go_wp2_with fail
      clear z0 z1 z2 z3 z4 z5 z6 z7 lz y0 y1 y2 ly; refine (CG.out bm _ U2.out OK1.out).mono ?_; rintro x w3 ⟨g, bq, v, Aq, cq, Ar, cr, rfl, hw, u3⟩
      have HW := Lib.hid (hw.mono U2.out.size)
      have M3 := Lib.hid (M2.out.up u3)
      have U3 := Lib.hid (U2.out.trans u3)
      clear hw u3; go_wp2
      exact bodyPost_ret (v := .tuple #[.pointer (some ⟨g, 0, none⟩), .bool true]) (by simp [results, Tryz.results34, go_sem]) rfl ⟨.inr ⟨rfl, _, _, _, _, _, _, _, _, rfl, M3.out, HW.out⟩, U3.out⟩
set_option maxHeartbeats 3000000 in
theorem implHstLeast_any (A : Option Addr) (n c : Nat) (B : Option Addr) (k d : Nat) (m : Mdl) (comp w0 w1 w2 ids : Int) (Ad : Option Addr) (nd cd : Nat) (Aw : Option Addr) (nw cw : Nat) (Aa : Option Addr) (na ca : Nat) (Ak : Option Addr) (nk ck : Nat) (ds : List Don) (ws vs : List Rec) (ks : List Kep) (w : World) (hM : MdlV w A n B k m) (hD : Dons w Ad nd ds) (hW : Recs w Aw nw ws) (hA : Recs w Aa na vs) (hK : Keps w Ak nk ks) (hl : nd ≤ 1048576 ∧ nw ≤ 1048576 ∧ na ≤ 1048576 ∧ nk ≤ 1048576) (hS : SmallD ds) :
    Calls Tryz.prog 10 #[.agg #[.slice A n c, .slice B k d, .int .i64 m.til], .int .i64 comp, .agg #[.int .i64 w0, .int .i64 w1, .int .i64 w2, .int .i64 ids, .slice Ad nd cd, .slice Aw nw cw, .slice Aa na ca, .slice Ak nk ck]] w fun x w' => x = .returned (.int .i64 (if (mdlB m && hostB m comp ⟨⟨w0, w1, w2⟩, ids, ds, ws, vs, ks⟩) = true then leastH m ⟨⟨w0, w1, w2⟩, ids, ds, ws, vs, ks⟩ else -1)) ∧ Up w w' := by
  have OKV := Lib.hid (fun (h : hostB m comp ⟨⟨w0, w1, w2⟩, ids, ds, ws, vs, ks⟩ = true) => anti_ok h)
  have CN := Lib.hid (fun W (u : Up w W) => newHost_any A n c B k d m comp w0 w1 w2 ids Ad nd cd Aw nw cw Aa na ca Ak nk ck ds ws vs ks W (hM.up u) (hD.up u) (hW.up u) (hA.up u) (hK.up u) hl hS)
  have HL := Lib.hid hl
  have X1 := Lib.hid ((Blk.new w #[.slice A n c, .slice B k d, .int .i64 m.til] 39).alloc (.cells #[.int .i64 w0, .int .i64 w1, .int .i64 w2, .int .i64 ids, .slice Ad nd cd, .slice Aw nw cw, .slice Aa na ca, .slice Ak nk ck] 46))
  have X2 := Lib.hid (Blk.new (w.alloc (.cells #[.slice A n c, .slice B k d, .int .i64 m.til] 39)) #[.int .i64 w0, .int .i64 w1, .int .i64 w2, .int .i64 ids, .slice Ad nd cd, .slice Aw nw cw, .slice Aa na ca, .slice Ak nk ck] 46)
  simp only [World.size_alloc] at X2
  have U := Lib.hid (((Up.refl w).alloc (.cells #[.slice A n c, .slice B k d, .int .i64 m.til] 39)).alloc (.cells #[.int .i64 w0, .int .i64 w1, .int .i64 w2, .int .i64 ids, .slice Ad nd cd, .slice Aw nw cw, .slice Aa na ca, .slice Ak nk ck] 46))
  clear hM hD hW hA hK hl hS
  have TIL := Lib.hid (fun (h : mdlB m = true) => mdlB_til h)
  have R0 := Lib.hid (show (mdlB m && hostB m comp ⟨⟨w0, w1, w2⟩, ids, ds, ws, vs, ks⟩) = false → -1 = (if (mdlB m && hostB m comp ⟨⟨w0, w1, w2⟩, ids, ds, ws, vs, ks⟩) = true then leastH m ⟨⟨w0, w1, w2⟩, ids, ds, ws, vs, ks⟩ else -1) from fun h => by rw [h]; rfl)
  have R1 := Lib.hid (show (mdlB m && hostB m comp ⟨⟨w0, w1, w2⟩, ids, ds, ws, vs, ks⟩) = true → leastH m ⟨⟨w0, w1, w2⟩, ids, ds, ws, vs, ks⟩ = (if (mdlB m && hostB m comp ⟨⟨w0, w1, w2⟩, ids, ds, ws, vs, ks⟩) = true then leastH m ⟨⟨w0, w1, w2⟩, ids, ds, ws, vs, ks⟩ else -1) from fun h => by rw [h]; rfl)
  generalize (if (mdlB m && hostB m comp ⟨⟨w0, w1, w2⟩, ids, ds, ws, vs, ks⟩) = true then leastH m ⟨⟨w0, w1, w2⟩, ids, ds, ws, vs, ks⟩ else -1) = res at R0 R1 ⊢
  go_enter Tryz.func10, Tryz.ntmps10
  go_wp2_with fail
  refine (CN.out _ U.out).mono ?_; rintro x wN ⟨⟨hb, rfl⟩ | ⟨hb, mb, g, bm, v, Aq, cq, Ar, cr, rfl, hMa, hw⟩, u1⟩
  · have HB := Lib.hid hb
    have U1 := Lib.hid (U.out.trans u1)
    clear hb u1; go_wp2; go_ret
    exact ⟨ret_int (R0.out HB.out), U1.out⟩
  · have HB := Lib.hid hb
    have HW := Lib.hid hw
    have U1 := Lib.hid (U.out.trans u1)
    have hm : mdlB m = true := by
      have := hb
      rw [Bool.and_eq_true] at this
      exact this.1
    have hh : hostB m comp ⟨⟨w0, w1, w2⟩, ids, ds, ws, vs, ks⟩ = true := by
      have := hb
      rw [Bool.and_eq_true] at this
      exact this.2
    have HM := Lib.hid hm
    have HO := Lib.hid (OKV.out hh)
    have CL := Lib.hid (least_any _ g bm mb m.rules.length m.til comp w0 w1 w2 ids v Aq cq Ar cr nd nw na nk ds ws vs ks wN HW.out (by have := TIL.out hm; omega) ⟨HL.out.2.1, HL.out.2.2.2⟩ HO.out)
    clear hb hw u1 hm hh hMa
    go_wp2_with fail
    refine CL.out.mono ?_; rintro x w2' ⟨rfl, u2⟩
    have U2 := Lib.hid (U1.out.trans u2)
    clear u2; go_wp2; go_ret
    exact ⟨ret_int (R1.out HB.out), U2.out⟩
end Go.Proofs.YtlkmhmiamdbhcabGreat

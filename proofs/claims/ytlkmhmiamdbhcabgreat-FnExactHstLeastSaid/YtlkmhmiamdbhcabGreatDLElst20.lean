/-
  What l4Done returns, in one sentence: whether what was done is as it must be; for every host that lies in memory.
-/
import Derived.Test.YtlkmhmiamdbhcabGreatDLElst02
import Derived.Test.YtlkmhmiamdbhcabGreatDLElst14
import Derived.Test.YtlkmhmiamdbhcabGreatDLElst15
import Derived.Test.YtlkmhmiamdbhcabGreatDLElst16
import Derived.Test.YtlkmhmiamdbhcabGreatDLElst18
import Derived.Test.YtlkmhmiamdbhcabGreatDLElst19
namespace Go.Proofs.YtlkmhmiamdbhcabGreat
set_option maxRecDepth 100000
open Go.RowKit
theorem eqD_dec (a b : Cst) : decide (a = b) = eqD a b := by
  obtain ⟨a0, a1, a2⟩ := a; obtain ⟨b0, b1, b2⟩ := b; rw [Bool.eq_iff_iff]; simp [eqD, and_assoc]
theorem itemsB_one (many til comp : Int) (r : Rec) : itemsB many til comp [r] = itemForB many til comp r := by simp [itemsB, riseT]
theorem itemForB_may {m : Mdl} {comp : Int} {c : Cst} {r : Rec} (h : itemForB m.rules.length m.til comp r = true) (hm : mdlB m = true) (hc : cstB c = true) : mayB m c r.ev = true := by
  unfold itemForB itemB takB at h; simp only [Bool.and_eq_true] at h; unfold mayB; rw [hm, hc, h.1.1.1, h.1.1.2]
  rfl
theorem recs_one (w : World) (r : Rec) (t : TypeId) : Recs (w.alloc (.cells #[.int .i64 r.ev.t, .int .i64 r.ev.to, .int .i64 r.ev.fr, .int .i64 r.ev.sq, .int .i64 r.ev.kd, .int .i64 r.ev.dt, .int .i64 r.s] t)) (some ⟨w.heap.size, 0, none⟩) 1 [r] :=
  ⟨rfl, fun _ => ⟨_, _, rfl, by simp, fun i hi => by
    obtain rfl : i = 0 := by omega
    have b := Blk.new w #[.int .i64 r.ev.t, .int .i64 r.ev.to, .int .i64 r.ev.fr, .int .i64 r.ev.sq, .int .i64 r.ev.kd, .int .i64 r.ev.dt, .int .i64 r.s] t
    exact ⟨b.cell (j := 0) rfl, b.cell (j := 1) rfl, b.cell (j := 2) rfl, b.cell (j := 3) rfl, b.cell (j := 4) rfl, b.cell (j := 5) rfl, b.cell (j := 6) rfl⟩⟩⟩
set_option maxHeartbeats 16000000 in
theorem specDone_any (A : Option Addr) (n c : Nat) (B : Option Addr) (k d : Nat) (m : Mdl) (comp : Int) (w0 w1 w2 : Int) (ids : Int) (Ad : Option Addr) (nd cd : Nat) (Aw : Option Addr) (nw cw : Nat) (Aa : Option Addr) (na ca : Nat) (Ak : Option Addr) (nk ck : Nat) (ds : List Don) (ws : List Rec) (w : World)
    (hM : MdlV w A n B k m) (hm : mdlB m = true) (hi : 0 ≤ ids ∧ ids ≤ 9999) (hD : Dons w Ad nd ds) (hW : Recs w Aw nw ws) (hl : nd ≤ 1048576 ∧ nw ≤ 1048576) (hS : SmallD ds) :
    Calls Tryz.prog 62 #[.agg #[.slice A n c, .slice B k d, .int .i64 m.til], .int .i64 comp, .agg #[.int .i64 w0, .int .i64 w1, .int .i64 w2, .int .i64 ids, .slice Ad nd cd, .slice Aw nw cw, .slice Aa na ca, .slice Ak nk ck]] w fun x w' => x = .returned (.bool (doneS m comp ids ⟨w0, w1, w2⟩ none ds && joinT (lastT none ds) ws)) ∧ Up w w' := by
  have HE := Lib.hid hD
  have LE := Lib.hid hD.1
  have HW := Lib.hid hW
  have LW := Lib.hid hW.1
  have SM := Lib.hid hS
  have hn := hM.rules.1
  have CI := Lib.hid (fun R l e xs W hl hE => (show Calls Tryz.prog 60 #[.agg #[.slice A n c, .slice B k d, .int .i64 m.til], .int .i64 comp, .slice R l e] W fun x w' => x = .returned (.bool (itemsB m.rules.length m.til comp xs)) ∧ Up W w' from (specItems_any A n c B k d m.til comp R l e xs W hl hE).mono (fun x w' h => by rw [hn]; exact h)))
  have CC := Lib.hid (fun c W => specCst_any c W)
  have CT := Lib.hid (fun (a b : Rec) W => (show Calls Tryz.prog 88 #[Rec.v a, Rec.v b] W fun x w' => x = .returned (.bool (ltR a b)) ∧ Up W w' from specItmLess_any (Rec.itm a) (Rec.itm b) W))
  have CD := Lib.hid (fun s e W (u : Up w W) hok => l2Do_any A n c B k d m s e W (hM.up u) hok)
  have CS := Lib.hid (fun A l e B q f xs es W hl hq hE hF => specSends_any A l e B q f xs es ids W hl hq hi hE hF)
  have CN := Lib.hid (fun a b W => neq_cst a b W)
  have MAY := Lib.hid (fun (s : Cst) (r : Rec) h1 h2 => itemForB_may (m := m) (comp := comp) (c := s) (r := r) h1 hm h2)
  have FEW := Lib.hid (fun s e => doE_len (c := s) (e := e) hm)
  have SD := Lib.hid (fun j p h => doneS_drop m comp ids ⟨w0, w1, w2⟩ ds j p h)
  have SE := Lib.hid (fun j p h => doneS_end m comp ids ⟨w0, w1, w2⟩ ds j p h)
  have LT := Lib.hid (lastT_eq ds none)
  have gd := guard_cst
  generalize hdn : doneS m comp ids ⟨w0, w1, w2⟩ none ds = dn
  have H0 := Lib.hid (show doneS m comp ids ⟨w0, w1, w2⟩ (prevT ds 0) (ds.drop 0) = dn from hdn)
  have X := Lib.hid ((Blk.new w #[.slice A n c, .slice B k d, .int .i64 m.til] 39).alloc (.cells #[.int .i64 w0, .int .i64 w1, .int .i64 w2, .int .i64 ids, .slice Ad nd cd, .slice Aw nw cw, .slice Aa na ca, .slice Ak nk ck] 46))
  have Y := Lib.hid (Blk.new (w.alloc (.cells #[.slice A n c, .slice B k d, .int .i64 m.til] 39)) #[.int .i64 w0, .int .i64 w1, .int .i64 w2, .int .i64 ids, .slice Ad nd cd, .slice Aw nw cw, .slice Aa na ca, .slice Ak nk ck] 46)
  simp only [World.size_alloc] at Y
  have U0 := Lib.hid (((Up.refl w).alloc (.cells #[.slice A n c, .slice B k d, .int .i64 m.til] 39)).alloc (.cells #[.int .i64 w0, .int .i64 w1, .int .i64 w2, .int .i64 ids, .slice Ad nd cd, .slice Aw nw cw, .slice Aa na ca, .slice Ak nk ck] 46))
  obtain ⟨hl1, hl2⟩ := hl; clear hD hW hS hM hdn hm hi hn
  go_enter Tryz.func62, Tryz.ntmps62
  go_wp2
  generalize (w.alloc (.cells #[.slice A n c, .slice B k d, .int .i64 m.til] 39)).alloc (.cells #[.int .i64 w0, .int .i64 w1, .int .i64 w2, .int .i64 ids, .slice Ad nd cd, .slice Aw nw cw, .slice Aa na ca, .slice Ak nk ck] 46) = W at *
  generalize hb1 : w.heap.size + 1 = bH at *
  generalize hb0 : w.heap.size = bM at *
  clear hb0 hb1
  go_loopw [7] (fun i wr => (∃ j : Nat, j ≤ nd ∧ i = .int .i64 j ∧ Hid (doneS m comp ids ⟨w0, w1, w2⟩ (prevT ds j) (ds.drop j) = dn)) ∧ Up W wr) (fun i _ => nd - (intOf i).toNat)
  case atStart => exact ⟨⟨0, by omega, rfl, H0⟩, Up.refl _⟩
  case round =>
    obtain ⟨⟨j, hj, rfl, HR⟩, ur⟩ := hrel
    replace X := Lib.hid (X.out.up ur)
    replace Y := Lib.hid (Y.out.up ur)
    have UW := Lib.hid ur
    have UR := Lib.hid (U0.out.trans ur)
    have y4 := Y.out.cell (j := 4) rfl
    have lY_ := Y.out.lt
    have i6 : IntKind.i64.wrap ((j : Int) + 1) = (j : Int) + 1 := IntWalk.i64_in _ (by omega)
    by_cases hlt : j < nd
    · have i4 : (j : Int) < nd := by omega
      have i5 : j < nd := hlt
      obtain ⟨b, off, hA, hb, hc⟩ := (HE.out.up UR.out).2.2 (by omega); subst hA
      have HC := Lib.hid (fun i hi => (fun W (u : Up wr W) => (hc i hi).up u hb))
      have hlb := Lib.hid (fun W (u : Up wr W) => Nat.lt_of_lt_of_le hb u.size)
      have S := SD.out j (prevT ds j) (by rw [LE.out]; exact hlt)
      rw [HR.out] at S
      have SN := prevT_succ ds j
      have PV := Lib.hid (show ∀ j0, j = j0 + 1 → prevT ds j = some (ds.getD j0 default).it from fun j0 h => by rw [h, prevT_succ])
      have PZ := Lib.hid (show j = 0 → prevT ds j = none from fun h => by rw [h]; rfl)
      have a0 := hc j hlt
      have sm := SM.out j (by rw [LE.out]; exact hlt)
      rw [LE.out] at S; clear hc hb ur
      generalize hp : ds.getD j default = p at S SN a0 sm
      clear hp; rw [← SN] at S
      generalize prevT ds j = pv at S PV PZ
      obtain ⟨S3, l3, e3, a0, hl3, hr3⟩ := a0
      have HR3 := Lib.hid hr3
      have hl3' : l3 ≤ 1048576 := by rw [← hr3.1]; exact sm
      clear SN HR hr3 sm hl3
      generalize hnext : (if j + 1 < nd then (ds.getD (j + 1) default).bf else ⟨w0, w1, w2⟩) = nxt at S
      have HNX := Lib.hid hnext
      clear hnext
      have MAYp := MAY.out p.bf p.it
      have FEWp := FEW.out p.bf p.it.ev
      have CDp := fun W u h => CD.out p.bf p.it.ev W u h
      have CIp := fun R W hE => CI.out R 1 1 [p.it] W (by omega) hE
      simp only [itemsB_one] at CIp
      have CCp := CC.out p.bf
      have CTp := fun q W => CT.out q p.it W
      have CNp := fun W => CN.out (doE m p.bf p.it.ev).1 nxt W
      have CSp := fun B q f W hq hF u => CS.out S3 l3 e3 B q f p.sent (doE m p.bf p.it.ev).2 W (by omega) hq (HR3.out.up u) hF
      have hbeh : ∀ q, behT (some q) p.it = ltR q p.it := fun _ => rfl
      have hbez : behT none p.it = true := rfl
      have hlead : leadB m ids p nxt = (cstB p.bf && (eqD (doE m p.bf p.it.ev).1 nxt && (decide ((doE m p.bf p.it.ev).1.s = p.s) && sameL ids p.sent (doE m p.bf p.it.ev).2))) := by
        unfold leadB; rw [eqD_dec]
      rw [hlead] at S; clear hlead; obtain ⟨⟨⟨p0, p1, p2, p3, p4, p5⟩, p6⟩, ⟨p7, p8, p9⟩, p10, ps⟩ := p; dsimp only at S MAYp FEWp CDp CIp CCp CTp CNp CSp hbeh hbez HR3 a0
      generalize itemForB m.rules.length m.til comp ⟨⟨p0, p1, p2, p3, p4, p5⟩, p6⟩ = b1 at S MAYp CIp
      generalize cstB ⟨p7, p8, p9⟩ = b2 at S MAYp CCp
      generalize doE m ⟨p7, p8, p9⟩ ⟨p0, p1, p2, p3, p4, p5⟩ = D at S CDp FEWp CNp CSp
      obtain ⟨⟨d0, d1, d2⟩, es⟩ := D; obtain ⟨n0, n1, n2⟩ := nxt; dsimp only at S FEWp CDp CNp CSp
      generalize sameL ids ps es = b5 at S CSp
      generalize heq4 : eqD ⟨d0, d1, d2⟩ ⟨n0, n1, n2⟩ = b4 at S CNp
      have HB4 := Lib.hid heq4
      clear heq4
      generalize hbh : behT pv ⟨⟨p0, p1, p2, p3, p4, p5⟩, p6⟩ = b3 at S
      have HBH := Lib.hid hbh
      clear hbh; unfold Rec.v at CTp; unfold Cst.v at CCp CNp CDp; unfold Evt.v at CDp; dsimp only at CCp CNp CDp CTp
      have CCq := Lib.hid CCp
      have CTq := Lib.hid CTp
      have CDq := Lib.hid CDp
      have CIq := Lib.hid CIp
      have CSq := Lib.hid CSp
      have CNq := Lib.hid CNp
      have MYq := Lib.hid MAYp
      have FWq := Lib.hid FEWp
      have HBE := Lib.hid hbeh
      have HBZ := Lib.hid hbez
      replace S := Lib.hid S
      clear CCp CTp CDp CIp CSp CNp MAYp FEWp hbeh hbez; obtain ⟨z0, z1, z2, z3, z4, z5, z6, z7, z8, z9, z10, z11⟩ := a0
      have lb := hlb.out _ (Up.refl _)
      have E8 := Lib.hid (Blk.new wr #[.int .i64 p0, .int .i64 p1, .int .i64 p2, .int .i64 p3, .int .i64 p4, .int .i64 p5, .int .i64 p6, .int .i64 p7, .int .i64 p8, .int .i64 p9, .int .i64 p10, .slice S3 l3 e3] 117)
      have UE := Lib.hid ((Up.refl wr).alloc (.cells #[.int .i64 p0, .int .i64 p1, .int .i64 p2, .int .i64 p3, .int .i64 p4, .int .i64 p5, .int .i64 p6, .int .i64 p7, .int .i64 p8, .int .i64 p9, .int .i64 p10, .slice S3 l3 e3] 117))
      go_wp2_with fail
      generalize wr.alloc (.cells #[.int .i64 p0, .int .i64 p1, .int .i64 p2, .int .i64 p3, .int .i64 p4, .int .i64 p5, .int .i64 p6, .int .i64 p7, .int .i64 p8, .int .i64 p9, .int .i64 p10, .slice S3 l3 e3] 117) = wE at *
      generalize hb8 : wr.heap.size = b8 at *
      have ONE := Lib.hid ((recs_one wE ⟨⟨p0, p1, p2, p3, p4, p5⟩, p6⟩ 109).up (Up.refl _).drew)
      clear hb8 z0 z1 z2 z3 z4 z5 z6 z7 z8 z9 z10 z11 lb y4 lY_
      cases b1
      · have HF := Lib.hid (show dn = false by rw [S.out]; simp)
        refine region_mixH (fun w' => Up wE w') [(0, true), (1, true), (2, true), (3, true), (4, false), (5, false), (6, true), (7, true), (8, true), (9, true), (10, true), (11, true), (12, true), (13, true), (14, true), (15, true), (16, true), (17, true), (18, true), (19, true), (20, true), (21, true), (22, true), (23, true), (24, true), (25, true), (26, true), (27, true), (28, true), (29, true)] (by kernel_rfl) (by kernel_rfl) (Up.refl _).drew ?_; refine mixH_take rfl (by rfl) ?_; apply Exists.intro; refine ⟨fun w1 hS1 => ?_, ?_⟩
        · have x0 := (X.out.up (UE.out.trans hS1)).cell (j := 0) rfl
          have x1 := (X.out.up (UE.out.trans hS1)).cell (j := 1) rfl
          have x2 := (X.out.up (UE.out.trans hS1)).cell (j := 2) rfl
          have lx_ := (X.out.up (UE.out.trans hS1)).lt
          clear hS1; go_simp
          try rfl
        go_simp
        iterate 2
          refine mixH_take rfl (by rfl) ?_; apply Exists.intro; refine ⟨fun w1 hS1 => ?_, ?_⟩
          · clear hS1
            go_simp
            try rfl
          go_simp
        refine mixH_take rfl (by rfl) ?_; apply Exists.intro; refine ⟨fun w1 hS1 => ?_, ?_⟩
        · have e0 := (E8.out.up hS1).cell (j := 0) rfl
          have e1 := (E8.out.up hS1).cell (j := 1) rfl
          have e2 := (E8.out.up hS1).cell (j := 2) rfl
          have e3 := (E8.out.up hS1).cell (j := 3) rfl
          have e4 := (E8.out.up hS1).cell (j := 4) rfl
          have e5 := (E8.out.up hS1).cell (j := 5) rfl
          have e6 := (E8.out.up hS1).cell (j := 6) rfl
          have le_ := (E8.out.up hS1).lt
          clear hS1; go_simp
          try rfl
        go_simp; refine mixH_go rfl (by rfl) (fun K hK => ?_); go_simp; refine hK _ _ ((Up.refl _).alloc _).drew ?_; clear hK K; go_simp; refine mixH_go rfl (by rfl) (fun K hK => ?_); go_simp; refine (CIq.out (some ⟨wE.heap.size, 0, none⟩) _ ONE.out).mono ?_; rintro z wA ⟨rfl, uA⟩; refine hK _ _ (((Up.refl _).alloc _).drew.trans uA) ?_; clear hK K; go_simp
        iterate 2
          refine mixH_take rfl (by rfl) ?_; apply Exists.intro; refine ⟨fun w1 hS1 => ?_, ?_⟩
          · clear hS1
            go_simp
            try rfl
          go_simp
        iterate 4
          refine mixH_skip rfl (by rfl) ?_; go_simp
        iterate 2
          refine mixH_take rfl (by rfl) ?_; apply Exists.intro; refine ⟨fun w1 hS1 => ?_, ?_⟩
          · clear hS1
            go_simp
            try rfl
          go_simp
        iterate 15
          refine mixH_skip rfl (by rfl) ?_; go_simp
        refine mixH_take rfl (by rfl) ?_; apply Exists.intro; refine ⟨fun w1 hS1 => ?_, ?_⟩
        · clear hS1
          go_simp
          try rfl
        go_simp; refine mixH_nil ?_; go_wp2; go_ret
        exact ⟨ret_bool (by rw [HF.out]; rfl), UR.out.trans (UE.out.trans (((Up.refl _).alloc _).drew.trans uA))⟩
      · cases b2
        · have HF := Lib.hid (show dn = false by rw [S.out]; simp)
          refine region_mixH (fun w' => Up wE w') [(0, true), (1, true), (2, true), (3, true), (4, false), (5, false), (6, true), (7, true), (8, true), (9, true), (10, false), (11, true), (12, true), (13, true), (14, true), (15, true), (16, true), (17, true), (18, true), (19, true), (20, true), (21, true), (22, true), (23, true), (24, true), (25, true), (26, true), (27, true), (28, true), (29, true)] (by kernel_rfl) (by kernel_rfl) (Up.refl _).drew ?_; refine mixH_take rfl (by rfl) ?_; apply Exists.intro; refine ⟨fun w1 hS1 => ?_, ?_⟩
          · have x0 := (X.out.up (UE.out.trans hS1)).cell (j := 0) rfl
            have x1 := (X.out.up (UE.out.trans hS1)).cell (j := 1) rfl
            have x2 := (X.out.up (UE.out.trans hS1)).cell (j := 2) rfl
            have lx_ := (X.out.up (UE.out.trans hS1)).lt
            clear hS1; go_simp
            try rfl
          go_simp
          iterate 2
            refine mixH_take rfl (by rfl) ?_; apply Exists.intro; refine ⟨fun w1 hS1 => ?_, ?_⟩
            · clear hS1
              go_simp
              try rfl
            go_simp
          refine mixH_take rfl (by rfl) ?_; apply Exists.intro; refine ⟨fun w1 hS1 => ?_, ?_⟩
          · have e0 := (E8.out.up hS1).cell (j := 0) rfl
            have e1 := (E8.out.up hS1).cell (j := 1) rfl
            have e2 := (E8.out.up hS1).cell (j := 2) rfl
            have e3 := (E8.out.up hS1).cell (j := 3) rfl
            have e4 := (E8.out.up hS1).cell (j := 4) rfl
            have e5 := (E8.out.up hS1).cell (j := 5) rfl
            have e6 := (E8.out.up hS1).cell (j := 6) rfl
            have le_ := (E8.out.up hS1).lt
            clear hS1; go_simp
            try rfl
          go_simp; refine mixH_go rfl (by rfl) (fun K hK => ?_); go_simp; refine hK _ _ ((Up.refl _).alloc _).drew ?_; clear hK K; go_simp; refine mixH_go rfl (by rfl) (fun K hK => ?_); go_simp; refine (CIq.out (some ⟨wE.heap.size, 0, none⟩) _ ONE.out).mono ?_; rintro z wA ⟨rfl, uA⟩; refine hK _ _ (((Up.refl _).alloc _).drew.trans uA) ?_; clear hK K; go_simp
          iterate 3
            refine mixH_take rfl (by rfl) ?_; apply Exists.intro; refine ⟨fun w1 hS1 => ?_, ?_⟩
            · clear hS1
              go_simp
              try rfl
            go_simp
          refine mixH_take rfl (by rfl) ?_; apply Exists.intro; refine ⟨fun w1 hS1 => ?_, ?_⟩
          · have e7 := (E8.out.up hS1).cell (j := 7) rfl
            have e8 := (E8.out.up hS1).cell (j := 8) rfl
            have e9 := (E8.out.up hS1).cell (j := 9) rfl
            have le_ := (E8.out.up hS1).lt
            clear hS1; go_simp
            try rfl
          go_simp; refine mixH_go rfl (by rfl) (fun K hK => ?_); go_simp; refine (CCq.out _).mono ?_; rintro z wB ⟨rfl, uB⟩; refine hK _ _ ((((Up.refl _).alloc _).drew.trans uA).trans uB) ?_; clear hK K; go_simp
          iterate 3
            refine mixH_take rfl (by rfl) ?_; apply Exists.intro; refine ⟨fun w1 hS1 => ?_, ?_⟩
            · clear hS1
              go_simp
              try rfl
            go_simp
          iterate 15
            refine mixH_skip rfl (by rfl) ?_; go_simp
          refine mixH_take rfl (by rfl) ?_; apply Exists.intro; refine ⟨fun w1 hS1 => ?_, ?_⟩
          · clear hS1
            go_simp
            try rfl
          go_simp; refine mixH_nil ?_; go_wp2; go_ret
          exact ⟨ret_bool (by rw [HF.out]; rfl), UR.out.trans (UE.out.trans ((((Up.refl _).alloc _).drew.trans uA).trans uB))⟩
        · by_cases hj0 : j = 0
          · have hb3 : b3 = true := by rw [← HBH.out, PZ.out hj0]; exact HBZ.out
            subst hb3; subst hj0; refine region_mixH (fun w' => Up wE w') [(0, true), (1, true), (2, true), (3, true), (4, false), (5, false), (6, true), (7, true), (8, true), (9, true), (10, false), (11, true), (12, true), (13, true), (14, true), (15, true), (16, true), (17, true), (18, true), (19, true), (20, true), (21, true), (22, true), (23, true), (24, true), (25, true), (26, true), (27, true), (28, true), (29, true)] (by kernel_rfl) (by kernel_rfl) (Up.refl _).drew ?_; refine mixH_take rfl (by rfl) ?_; apply Exists.intro; refine ⟨fun w1 hS1 => ?_, ?_⟩
            · have x0 := (X.out.up (UE.out.trans hS1)).cell (j := 0) rfl
              have x1 := (X.out.up (UE.out.trans hS1)).cell (j := 1) rfl
              have x2 := (X.out.up (UE.out.trans hS1)).cell (j := 2) rfl
              have lx_ := (X.out.up (UE.out.trans hS1)).lt
              clear hS1; go_simp
              try rfl
            go_simp
            iterate 2
              refine mixH_take rfl (by rfl) ?_; apply Exists.intro; refine ⟨fun w1 hS1 => ?_, ?_⟩
              · clear hS1
                go_simp
                try rfl
              go_simp
            refine mixH_take rfl (by rfl) ?_; apply Exists.intro; refine ⟨fun w1 hS1 => ?_, ?_⟩
            · have e0 := (E8.out.up hS1).cell (j := 0) rfl
              have e1 := (E8.out.up hS1).cell (j := 1) rfl
              have e2 := (E8.out.up hS1).cell (j := 2) rfl
              have e3 := (E8.out.up hS1).cell (j := 3) rfl
              have e4 := (E8.out.up hS1).cell (j := 4) rfl
              have e5 := (E8.out.up hS1).cell (j := 5) rfl
              have e6 := (E8.out.up hS1).cell (j := 6) rfl
              have le_ := (E8.out.up hS1).lt
              clear hS1; go_simp
              try rfl
            go_simp; refine mixH_go rfl (by rfl) (fun K hK => ?_); go_simp; refine hK _ _ ((Up.refl _).alloc _).drew ?_; clear hK K; go_simp; refine mixH_go rfl (by rfl) (fun K hK => ?_); go_simp; refine (CIq.out (some ⟨wE.heap.size, 0, none⟩) _ ONE.out).mono ?_; rintro z wA ⟨rfl, uA⟩; refine hK _ _ (((Up.refl _).alloc _).drew.trans uA) ?_; clear hK K; go_simp
            iterate 3
              refine mixH_take rfl (by rfl) ?_; apply Exists.intro; refine ⟨fun w1 hS1 => ?_, ?_⟩
              · clear hS1
                go_simp
                try rfl
              go_simp
            refine mixH_take rfl (by rfl) ?_; apply Exists.intro; refine ⟨fun w1 hS1 => ?_, ?_⟩
            · have e7 := (E8.out.up hS1).cell (j := 7) rfl
              have e8 := (E8.out.up hS1).cell (j := 8) rfl
              have e9 := (E8.out.up hS1).cell (j := 9) rfl
              have le_ := (E8.out.up hS1).lt
              clear hS1; go_simp
              try rfl
            go_simp; refine mixH_go rfl (by rfl) (fun K hK => ?_); go_simp; refine (CCq.out _).mono ?_; rintro z wB ⟨rfl, uB⟩; refine hK _ _ ((((Up.refl _).alloc _).drew.trans uA).trans uB) ?_; clear hK K; go_simp
            iterate 6
              refine mixH_take rfl (by rfl) ?_; apply Exists.intro; refine ⟨fun w1 hS1 => ?_, ?_⟩
              · clear hS1
                go_simp
                try rfl
              go_simp
            iterate 11
              refine mixH_skip rfl (by rfl) ?_; go_simp
            iterate 2
              refine mixH_take rfl (by rfl) ?_; apply Exists.intro; refine ⟨fun w1 hS1 => ?_, ?_⟩
              · clear hS1
                go_simp
                try rfl
              go_simp
            refine mixH_nil ?_
            have UF := Lib.hid (UE.out.trans ((((Up.refl _).alloc _).drew.trans uA).trans uB))
            replace E8 := Lib.hid (E8.out.up ((((Up.refl _).alloc _).drew.trans uA).trans uB))
            obtain ⟨x0, x1, x2⟩ := And.intro ((X.out.up UF.out).cell (j := 0) rfl) (And.intro ((X.out.up UF.out).cell (j := 1) rfl) ((X.out.up UF.out).cell (j := 2) rfl))
            have lX_ := (X.out.up UF.out).lt
            have e0 := (E8.out).cell (j := 0) rfl
            have e1 := (E8.out).cell (j := 1) rfl
            have e2 := (E8.out).cell (j := 2) rfl
            have e3 := (E8.out).cell (j := 3) rfl
            have e4 := (E8.out).cell (j := 4) rfl
            have e5 := (E8.out).cell (j := 5) rfl
            have e7 := (E8.out).cell (j := 7) rfl
            have e8 := (E8.out).cell (j := 8) rfl
            have e9 := (E8.out).cell (j := 9) rfl
            have le_ := (E8.out).lt
            go_wp2_with fail
            refine (CDq.out _ (UR.out.trans UF.out) (MYq.out (by first | trivial | rfl) (by first | trivial | rfl))).mono ?_; rintro x wG ⟨A', c', rfl, hc1, hc2, hes, -, uG⟩
            have HES := Lib.hid hes
            have UG := Lib.hid (UF.out.trans uG)
            replace E8 := Lib.hid (E8.out.up uG)
            clear uG hes x0 x1 x2 lX_ e0 e1 e2 e3 e4 e5 e7 e8 e9 le_
            have hes2 := FWq.out
            have DD := Lib.hid (((Up.refl wG).alloc (.cells #[.int .i64 d0, .int .i64 d1, .int .i64 d2] 41)).alloc (.cells #[.int .i64 w0, .int .i64 w1, .int .i64 w2] 41))
            have E9 := Lib.hid ((Blk.new wG #[.int .i64 d0, .int .i64 d1, .int .i64 d2] 41).alloc (.cells #[.int .i64 w0, .int .i64 w1, .int .i64 w2] 41))
            have EB := Lib.hid (Blk.new (wG.alloc (.cells #[.int .i64 d0, .int .i64 d1, .int .i64 d2] 41)) #[.int .i64 w0, .int .i64 w1, .int .i64 w2] 41)
            simp only [World.size_alloc] at EB
            have y0 := (Y.out.up UG.out).cell (j := 0) rfl
            have y1 := (Y.out.up UG.out).cell (j := 1) rfl
            have y2 := (Y.out.up UG.out).cell (j := 2) rfl
            have y4 := (Y.out.up UG.out).cell (j := 4) rfl
            have ly_ := (Y.out.up UG.out).lt
            by_cases hnj : (0) + 1 < nd
            · have g1 : (((0) : Nat) : Int) + 1 < nd := by omega
              have a1 := HC.out ((0) + 1) hnj _ UG.out
              obtain ⟨Q4, q4, f4, ⟨-, -, -, -, -, -, -, t7, t8, t9, -⟩, -, -⟩ := a1
              have hnx : (ds.getD ((0) + 1) default).bf = ⟨n0, n1, n2⟩ := by have := HNX.out; rwa [if_pos hnj] at this
              rw [hnx] at t7 t8 t9; dsimp only at t7 t8 t9
              have lq_ := hlb.out _ UG.out
              have i7 : IntKind.i64.wrap ((((0) : Nat) : Int) + 1) = (((0) : Nat) : Int) + 1 := IntWalk.i64_in _ (by omega)
              clear hnx; obtain ⟨h10, h11⟩ := And.intro (E8.out.cell (j := 10) rfl) (E8.out.cell (j := 11) rfl)
              have l8_ := E8.out.lt
              have y3 := (Y.out.up UG.out).cell (j := 3) rfl
              have lG := Nat.le_of_lt l8_
              have U9 := Lib.hid (show Up wG ((wG.alloc (.cells #[.int .i64 d0, .int .i64 d1, .int .i64 d2] 41)).alloc (.cells #[.int .i64 n0, .int .i64 n1, .int .i64 n2] 41)) from ((Up.refl wG).alloc _).alloc _)
              cases b4
              · have HF := Lib.hid (show dn = false by rw [S.out]; simp)
                clear S
                have cn := CNq.out
                go_wp2; go_ret
                exact ⟨ret_bool (by rw [HF.out]; rfl), UR.out.trans (UG.out.trans U9.out)⟩
              · have hqd := HB4.out
                unfold eqD at hqd; simp only [Bool.and_eq_true, decide_eq_true_eq] at hqd; obtain ⟨⟨hq0, hq1⟩, hq2⟩ := hqd
                replace hq0 := hq0.symm
                replace hq1 := hq1.symm
                replace hq2 := hq2.symm
                subst hq0 hq1 hq2; clear CNq HB4
                by_cases hs : n0 = p10
                · subst hs
                  go_wp2_with fail
                  refine (CSq.out _ _ _ _ (by omega) ((HES.out.up U9.out)) (UG.out.trans U9.out)).mono ?_; rintro x wI ⟨rfl, uI⟩
                  cases b5
                  · have HF := Lib.hid (show dn = false by rw [S.out]; simp)
                    go_wp2; go_ret
                    exact ⟨ret_bool (by rw [HF.out]; rfl), UR.out.trans (UG.out.trans (U9.out.trans uI))⟩
                  · have HN := Lib.hid (show doneS m comp ids ⟨w0, w1, w2⟩ (prevT ds ((0) + 1)) (ds.drop ((0) + 1)) = dn by rw [S.out]; simp)
                    go_wp2
                    go_roundw
                    case rel => exact ⟨⟨(0) + 1, by omega, by go_num, HN⟩, UW.out.trans (UG.out.trans (U9.out.trans uI))⟩
                    case measure => simp [intOf]; omega
                · have HF := Lib.hid (show dn = false by rw [S.out]; simp [hs])
                  have hd1 : (n0 != p10) = true := by simp [hs]
                  go_wp2; go_ret
                  exact ⟨ret_bool (by rw [HF.out]; rfl), UR.out.trans (UG.out.trans U9.out)⟩
            · have g1 : ¬ ((((0) : Nat) : Int) + 1 < nd) := by omega
              have hnx : (⟨w0, w1, w2⟩ : Cst) = ⟨n0, n1, n2⟩ := by have := HNX.out; rwa [if_neg hnj] at this
              injection hnx with q0 q1 q2
              subst q0 q1 q2
              have i7 : IntKind.i64.wrap ((((0) : Nat) : Int) + 1) = (((0) : Nat) : Int) + 1 := IntWalk.i64_in _ (by omega)
              obtain ⟨h10, h11⟩ := And.intro (E8.out.cell (j := 10) rfl) (E8.out.cell (j := 11) rfl)
              have l8_ := E8.out.lt
              have y3 := (Y.out.up UG.out).cell (j := 3) rfl
              have U9 := DD
              cases b4
              · have HF := Lib.hid (show dn = false by rw [S.out]; simp)
                clear S
                have cn := CNq.out
                go_wp2; go_ret
                exact ⟨ret_bool (by rw [HF.out]; rfl), UR.out.trans (UG.out.trans U9.out)⟩
              · have hqd := HB4.out
                unfold eqD at hqd; simp only [Bool.and_eq_true, decide_eq_true_eq] at hqd; obtain ⟨⟨hq0, hq1⟩, hq2⟩ := hqd
                replace hq0 := hq0.symm
                replace hq1 := hq1.symm
                replace hq2 := hq2.symm
                subst hq0 hq1 hq2; clear CNq HB4
                by_cases hs : w0 = p10
                · subst hs
                  go_wp2_with fail
                  refine (CSq.out _ _ _ _ (by omega) ((HES.out.up U9.out)) (UG.out.trans U9.out)).mono ?_; rintro x wI ⟨rfl, uI⟩
                  cases b5
                  · have HF := Lib.hid (show dn = false by rw [S.out]; simp)
                    go_wp2; go_ret
                    exact ⟨ret_bool (by rw [HF.out]; rfl), UR.out.trans (UG.out.trans (U9.out.trans uI))⟩
                  · have HN := Lib.hid (show doneS m comp ids ⟨w0, w1, w2⟩ (prevT ds ((0) + 1)) (ds.drop ((0) + 1)) = dn by rw [S.out]; simp)
                    go_wp2
                    go_roundw
                    case rel => exact ⟨⟨(0) + 1, by omega, by go_num, HN⟩, UW.out.trans (UG.out.trans (U9.out.trans uI))⟩
                    case measure => simp [intOf]; omega
                · have HF := Lib.hid (show dn = false by rw [S.out]; simp [hs])
                  have hd1 : (w0 != p10) = true := by simp [hs]
                  go_wp2; go_ret
                  exact ⟨ret_bool (by rw [HF.out]; rfl), UR.out.trans (UG.out.trans U9.out)⟩
          · obtain ⟨j0, rfl⟩ : ∃ j0, j = j0 + 1 := ⟨j - 1, by omega⟩
            have hbq := PV.out j0 rfl
            generalize hqq : (ds.getD j0 default).it = q at hbq
            have HQ := Lib.hid hqq
            have hb2 : b3 = ltR q ⟨⟨p0, p1, p2, p3, p4, p5⟩, p6⟩ := by rw [← HBH.out, hbq]; exact HBE.out q
            have ctq := CTq.out q
            rw [← hb2] at ctq; obtain ⟨⟨q0, q1, q2, q3, q4, q5⟩, q6⟩ := q; dsimp only at ctq
            have CTr := Lib.hid ctq
            clear ctq hb2 hbq hqq
            have k1 : IntKind.i64.wrap ((j0 : Int) + 1 - 1) = (j0 : Int) := by rw [show (j0 : Int) + 1 - 1 = (j0 : Int) by omega]; exact IntWalk.i64_in _ (by omega)
            have k2 : (j0 : Int) + 1 - 1 = (j0 : Int) := by omega
            have k3 : IntKind.i64.wrap (j0 : Int) = (j0 : Int) := IntWalk.i64_in _ (by omega)
            have k4 : (0 : Int) < (j0 : Int) + 1 := by omega
            have k5 : (j0 : Int) < (nd : Int) := by omega
            have k6 : j0 < nd := by omega
            cases b3
            · have HF := Lib.hid (show dn = false by rw [S.out]; simp)
              refine region_mixH (fun w' => Up wE w') [(0, true), (1, true), (2, true), (3, true), (4, false), (5, false), (6, true), (7, true), (8, true), (9, true), (10, false), (11, true), (12, true), (13, true), (14, true), (15, true), (16, true), (17, true), (18, true), (19, true), (20, true), (21, true), (22, true), (23, true), (24, true), (25, true), (26, false), (27, true), (28, true), (29, true)] (by kernel_rfl) (by kernel_rfl) (Up.refl _).drew ?_; refine mixH_take rfl (by rfl) ?_; apply Exists.intro; refine ⟨fun w1 hS1 => ?_, ?_⟩
              · have x0 := (X.out.up (UE.out.trans hS1)).cell (j := 0) rfl
                have x1 := (X.out.up (UE.out.trans hS1)).cell (j := 1) rfl
                have x2 := (X.out.up (UE.out.trans hS1)).cell (j := 2) rfl
                have lx_ := (X.out.up (UE.out.trans hS1)).lt
                clear hS1; go_simp
                try rfl
              go_simp
              iterate 2
                refine mixH_take rfl (by rfl) ?_; apply Exists.intro; refine ⟨fun w1 hS1 => ?_, ?_⟩
                · clear hS1
                  go_simp
                  try rfl
                go_simp
              refine mixH_take rfl (by rfl) ?_; apply Exists.intro; refine ⟨fun w1 hS1 => ?_, ?_⟩
              · have e0 := (E8.out.up hS1).cell (j := 0) rfl
                have e1 := (E8.out.up hS1).cell (j := 1) rfl
                have e2 := (E8.out.up hS1).cell (j := 2) rfl
                have e3 := (E8.out.up hS1).cell (j := 3) rfl
                have e4 := (E8.out.up hS1).cell (j := 4) rfl
                have e5 := (E8.out.up hS1).cell (j := 5) rfl
                have e6 := (E8.out.up hS1).cell (j := 6) rfl
                have le_ := (E8.out.up hS1).lt
                clear hS1; go_simp
                try rfl
              go_simp; refine mixH_go rfl (by rfl) (fun K hK => ?_); go_simp; refine hK _ _ ((Up.refl _).alloc _).drew ?_; clear hK K; go_simp; refine mixH_go rfl (by rfl) (fun K hK => ?_); go_simp; refine (CIq.out (some ⟨wE.heap.size, 0, none⟩) _ ONE.out).mono ?_; rintro z wA ⟨rfl, uA⟩; refine hK _ _ (((Up.refl _).alloc _).drew.trans uA) ?_; clear hK K; go_simp
              iterate 3
                refine mixH_take rfl (by rfl) ?_; apply Exists.intro; refine ⟨fun w1 hS1 => ?_, ?_⟩
                · clear hS1
                  go_simp
                  try rfl
                go_simp
              refine mixH_take rfl (by rfl) ?_; apply Exists.intro; refine ⟨fun w1 hS1 => ?_, ?_⟩
              · have e7 := (E8.out.up hS1).cell (j := 7) rfl
                have e8 := (E8.out.up hS1).cell (j := 8) rfl
                have e9 := (E8.out.up hS1).cell (j := 9) rfl
                have le_ := (E8.out.up hS1).lt
                clear hS1; go_simp
                try rfl
              go_simp; refine mixH_go rfl (by rfl) (fun K hK => ?_); go_simp; refine (CCq.out _).mono ?_; rintro z wB ⟨rfl, uB⟩; refine hK _ _ ((((Up.refl _).alloc _).drew.trans uA).trans uB) ?_; clear hK K; go_simp
              iterate 7
                refine mixH_take rfl (by rfl) ?_; apply Exists.intro; refine ⟨fun w1 hS1 => ?_, ?_⟩
                · clear hS1
                  go_simp
                  try rfl
                go_simp
              refine mixH_take rfl (by rfl) ?_; apply Exists.intro; refine ⟨fun w1 hS1 => ?_, ?_⟩
              · have y4 := (Y.out.up (UE.out.trans hS1)).cell (j := 4) rfl
                have ly_ := (Y.out.up (UE.out.trans hS1)).lt
                clear hS1; go_simp
                try rfl
              go_simp
              iterate 4
                refine mixH_take rfl (by rfl) ?_; apply Exists.intro; refine ⟨fun w1 hS1 => ?_, ?_⟩
                · clear hS1
                  go_simp
                  try rfl
                go_simp
              refine mixH_take rfl (by rfl) ?_; apply Exists.intro; refine ⟨fun w1 hS1 => ?_, ?_⟩
              · have a1 := HC.out j0 (by omega) _ (UE.out.trans hS1)
                obtain ⟨Q3, q3, f3, ⟨c0, c1, c2, c3, c4, c5, c6, -⟩, -, -⟩ := a1; rw [HQ.out] at c0 c1 c2 c3 c4 c5 c6; dsimp only at c0 c1 c2 c3 c4 c5 c6
                have lq_ := hlb.out _ (UE.out.trans hS1)
                clear hS1; go_simp
                try rfl
              go_simp; refine mixH_take rfl (by rfl) ?_; apply Exists.intro; refine ⟨fun w1 hS1 => ?_, ?_⟩
              · clear hS1
                go_simp
                try rfl
              go_simp; refine mixH_take rfl (by rfl) ?_; apply Exists.intro; refine ⟨fun w1 hS1 => ?_, ?_⟩
              · have e0 := (E8.out.up hS1).cell (j := 0) rfl
                have e1 := (E8.out.up hS1).cell (j := 1) rfl
                have e2 := (E8.out.up hS1).cell (j := 2) rfl
                have e3 := (E8.out.up hS1).cell (j := 3) rfl
                have e4 := (E8.out.up hS1).cell (j := 4) rfl
                have e5 := (E8.out.up hS1).cell (j := 5) rfl
                have e6 := (E8.out.up hS1).cell (j := 6) rfl
                have le_ := (E8.out.up hS1).lt
                clear hS1; go_simp
                try rfl
              go_simp; refine mixH_go rfl (by rfl) (fun K hK => ?_); go_simp; refine (CTr.out _).mono ?_; rintro z wC ⟨rfl, uC⟩; refine hK _ _ (((((Up.refl _).alloc _).drew.trans uA).trans uB).trans uC) ?_; clear hK K; go_simp
              iterate 3
                refine mixH_take rfl (by rfl) ?_; apply Exists.intro; refine ⟨fun w1 hS1 => ?_, ?_⟩
                · clear hS1
                  go_simp
                  try rfl
                go_simp
              refine mixH_nil ?_; go_wp2; go_ret
              exact ⟨ret_bool (by rw [HF.out]; rfl), UR.out.trans (UE.out.trans (((((Up.refl _).alloc _).drew.trans uA).trans uB).trans uC))⟩
            · skip
              refine region_mixH (fun w' => Up wE w') [(0, true), (1, true), (2, true), (3, true), (4, false), (5, false), (6, true), (7, true), (8, true), (9, true), (10, false), (11, true), (12, true), (13, true), (14, true), (15, true), (16, true), (17, true), (18, true), (19, true), (20, true), (21, true), (22, true), (23, true), (24, true), (25, true), (26, false), (27, true), (28, true), (29, true)] (by kernel_rfl) (by kernel_rfl) (Up.refl _).drew ?_; refine mixH_take rfl (by rfl) ?_; apply Exists.intro; refine ⟨fun w1 hS1 => ?_, ?_⟩
              · have x0 := (X.out.up (UE.out.trans hS1)).cell (j := 0) rfl
                have x1 := (X.out.up (UE.out.trans hS1)).cell (j := 1) rfl
                have x2 := (X.out.up (UE.out.trans hS1)).cell (j := 2) rfl
                have lx_ := (X.out.up (UE.out.trans hS1)).lt
                clear hS1; go_simp
                try rfl
              go_simp
              iterate 2
                refine mixH_take rfl (by rfl) ?_; apply Exists.intro; refine ⟨fun w1 hS1 => ?_, ?_⟩
                · clear hS1
                  go_simp
                  try rfl
                go_simp
              refine mixH_take rfl (by rfl) ?_; apply Exists.intro; refine ⟨fun w1 hS1 => ?_, ?_⟩
              · have e0 := (E8.out.up hS1).cell (j := 0) rfl
                have e1 := (E8.out.up hS1).cell (j := 1) rfl
                have e2 := (E8.out.up hS1).cell (j := 2) rfl
                have e3 := (E8.out.up hS1).cell (j := 3) rfl
                have e4 := (E8.out.up hS1).cell (j := 4) rfl
                have e5 := (E8.out.up hS1).cell (j := 5) rfl
                have e6 := (E8.out.up hS1).cell (j := 6) rfl
                have le_ := (E8.out.up hS1).lt
                clear hS1; go_simp
                try rfl
              go_simp; refine mixH_go rfl (by rfl) (fun K hK => ?_); go_simp; refine hK _ _ ((Up.refl _).alloc _).drew ?_; clear hK K; go_simp; refine mixH_go rfl (by rfl) (fun K hK => ?_); go_simp; refine (CIq.out (some ⟨wE.heap.size, 0, none⟩) _ ONE.out).mono ?_; rintro z wA ⟨rfl, uA⟩; refine hK _ _ (((Up.refl _).alloc _).drew.trans uA) ?_; clear hK K; go_simp
              iterate 3
                refine mixH_take rfl (by rfl) ?_; apply Exists.intro; refine ⟨fun w1 hS1 => ?_, ?_⟩
                · clear hS1
                  go_simp
                  try rfl
                go_simp
              refine mixH_take rfl (by rfl) ?_; apply Exists.intro; refine ⟨fun w1 hS1 => ?_, ?_⟩
              · have e7 := (E8.out.up hS1).cell (j := 7) rfl
                have e8 := (E8.out.up hS1).cell (j := 8) rfl
                have e9 := (E8.out.up hS1).cell (j := 9) rfl
                have le_ := (E8.out.up hS1).lt
                clear hS1; go_simp
                try rfl
              go_simp; refine mixH_go rfl (by rfl) (fun K hK => ?_); go_simp; refine (CCq.out _).mono ?_; rintro z wB ⟨rfl, uB⟩; refine hK _ _ ((((Up.refl _).alloc _).drew.trans uA).trans uB) ?_; clear hK K; go_simp
              iterate 7
                refine mixH_take rfl (by rfl) ?_; apply Exists.intro; refine ⟨fun w1 hS1 => ?_, ?_⟩
                · clear hS1
                  go_simp
                  try rfl
                go_simp
              refine mixH_take rfl (by rfl) ?_; apply Exists.intro; refine ⟨fun w1 hS1 => ?_, ?_⟩
              · have y4 := (Y.out.up (UE.out.trans hS1)).cell (j := 4) rfl
                have ly_ := (Y.out.up (UE.out.trans hS1)).lt
                clear hS1; go_simp
                try rfl
              go_simp
              iterate 4
                refine mixH_take rfl (by rfl) ?_; apply Exists.intro; refine ⟨fun w1 hS1 => ?_, ?_⟩
                · clear hS1
                  go_simp
                  try rfl
                go_simp
              refine mixH_take rfl (by rfl) ?_; apply Exists.intro; refine ⟨fun w1 hS1 => ?_, ?_⟩
              · have a1 := HC.out j0 (by omega) _ (UE.out.trans hS1)
                obtain ⟨Q3, q3, f3, ⟨c0, c1, c2, c3, c4, c5, c6, -⟩, -, -⟩ := a1; rw [HQ.out] at c0 c1 c2 c3 c4 c5 c6; dsimp only at c0 c1 c2 c3 c4 c5 c6
                have lq_ := hlb.out _ (UE.out.trans hS1)
                clear hS1; go_simp
                try rfl
              go_simp; refine mixH_take rfl (by rfl) ?_; apply Exists.intro; refine ⟨fun w1 hS1 => ?_, ?_⟩
              · clear hS1
                go_simp
                try rfl
              go_simp; refine mixH_take rfl (by rfl) ?_; apply Exists.intro; refine ⟨fun w1 hS1 => ?_, ?_⟩
              · have e0 := (E8.out.up hS1).cell (j := 0) rfl
                have e1 := (E8.out.up hS1).cell (j := 1) rfl
                have e2 := (E8.out.up hS1).cell (j := 2) rfl
                have e3 := (E8.out.up hS1).cell (j := 3) rfl
                have e4 := (E8.out.up hS1).cell (j := 4) rfl
                have e5 := (E8.out.up hS1).cell (j := 5) rfl
                have e6 := (E8.out.up hS1).cell (j := 6) rfl
                have le_ := (E8.out.up hS1).lt
                clear hS1; go_simp
                try rfl
              go_simp; refine mixH_go rfl (by rfl) (fun K hK => ?_); go_simp; refine (CTr.out _).mono ?_; rintro z wC ⟨rfl, uC⟩; refine hK _ _ (((((Up.refl _).alloc _).drew.trans uA).trans uB).trans uC) ?_; clear hK K; go_simp
              iterate 3
                refine mixH_take rfl (by rfl) ?_; apply Exists.intro; refine ⟨fun w1 hS1 => ?_, ?_⟩
                · clear hS1
                  go_simp
                  try rfl
                go_simp
              refine mixH_nil ?_
              have UF := Lib.hid (UE.out.trans (((((Up.refl _).alloc _).drew.trans uA).trans uB).trans uC))
              replace E8 := Lib.hid (E8.out.up (((((Up.refl _).alloc _).drew.trans uA).trans uB).trans uC))
              obtain ⟨x0, x1, x2⟩ := And.intro ((X.out.up UF.out).cell (j := 0) rfl) (And.intro ((X.out.up UF.out).cell (j := 1) rfl) ((X.out.up UF.out).cell (j := 2) rfl))
              have lX_ := (X.out.up UF.out).lt
              have e0 := (E8.out).cell (j := 0) rfl
              have e1 := (E8.out).cell (j := 1) rfl
              have e2 := (E8.out).cell (j := 2) rfl
              have e3 := (E8.out).cell (j := 3) rfl
              have e4 := (E8.out).cell (j := 4) rfl
              have e5 := (E8.out).cell (j := 5) rfl
              have e7 := (E8.out).cell (j := 7) rfl
              have e8 := (E8.out).cell (j := 8) rfl
              have e9 := (E8.out).cell (j := 9) rfl
              have le_ := (E8.out).lt
              go_wp2_with fail
              refine (CDq.out _ (UR.out.trans UF.out) (MYq.out (by first | trivial | rfl) (by first | trivial | rfl))).mono ?_; rintro x wG ⟨A', c', rfl, hc1, hc2, hes, -, uG⟩
              have HES := Lib.hid hes
              have UG := Lib.hid (UF.out.trans uG)
              replace E8 := Lib.hid (E8.out.up uG)
              clear uG hes x0 x1 x2 lX_ e0 e1 e2 e3 e4 e5 e7 e8 e9 le_
              have hes2 := FWq.out
              have DD := Lib.hid (((Up.refl wG).alloc (.cells #[.int .i64 d0, .int .i64 d1, .int .i64 d2] 41)).alloc (.cells #[.int .i64 w0, .int .i64 w1, .int .i64 w2] 41))
              have E9 := Lib.hid ((Blk.new wG #[.int .i64 d0, .int .i64 d1, .int .i64 d2] 41).alloc (.cells #[.int .i64 w0, .int .i64 w1, .int .i64 w2] 41))
              have EB := Lib.hid (Blk.new (wG.alloc (.cells #[.int .i64 d0, .int .i64 d1, .int .i64 d2] 41)) #[.int .i64 w0, .int .i64 w1, .int .i64 w2] 41)
              simp only [World.size_alloc] at EB
              have y0 := (Y.out.up UG.out).cell (j := 0) rfl
              have y1 := (Y.out.up UG.out).cell (j := 1) rfl
              have y2 := (Y.out.up UG.out).cell (j := 2) rfl
              have y4 := (Y.out.up UG.out).cell (j := 4) rfl
              have ly_ := (Y.out.up UG.out).lt
              by_cases hnj : (j0 + 1) + 1 < nd
              · have g1 : (((j0 + 1) : Nat) : Int) + 1 < nd := by omega
                have a1 := HC.out ((j0 + 1) + 1) hnj _ UG.out
                obtain ⟨Q4, q4, f4, ⟨-, -, -, -, -, -, -, t7, t8, t9, -⟩, -, -⟩ := a1
                have hnx : (ds.getD ((j0 + 1) + 1) default).bf = ⟨n0, n1, n2⟩ := by have := HNX.out; rwa [if_pos hnj] at this
                rw [hnx] at t7 t8 t9; dsimp only at t7 t8 t9
                have lq_ := hlb.out _ UG.out
                have i7 : IntKind.i64.wrap ((((j0 + 1) : Nat) : Int) + 1) = (((j0 + 1) : Nat) : Int) + 1 := IntWalk.i64_in _ (by omega)
                clear hnx; obtain ⟨h10, h11⟩ := And.intro (E8.out.cell (j := 10) rfl) (E8.out.cell (j := 11) rfl)
                have l8_ := E8.out.lt
                have y3 := (Y.out.up UG.out).cell (j := 3) rfl
                have lG := Nat.le_of_lt l8_
                have U9 := Lib.hid (show Up wG ((wG.alloc (.cells #[.int .i64 d0, .int .i64 d1, .int .i64 d2] 41)).alloc (.cells #[.int .i64 n0, .int .i64 n1, .int .i64 n2] 41)) from ((Up.refl wG).alloc _).alloc _)
                cases b4
                · have HF := Lib.hid (show dn = false by rw [S.out]; simp)
                  clear S
                  have cn := CNq.out
                  go_wp2; go_ret
                  exact ⟨ret_bool (by rw [HF.out]; rfl), UR.out.trans (UG.out.trans U9.out)⟩
                · have hqd := HB4.out
                  unfold eqD at hqd; simp only [Bool.and_eq_true, decide_eq_true_eq] at hqd; obtain ⟨⟨hq0, hq1⟩, hq2⟩ := hqd
                  replace hq0 := hq0.symm
                  replace hq1 := hq1.symm
                  replace hq2 := hq2.symm
                  subst hq0 hq1 hq2; clear CNq HB4
                  by_cases hs : n0 = p10
                  · subst hs
                    go_wp2_with fail
                    refine (CSq.out _ _ _ _ (by omega) ((HES.out.up U9.out)) (UG.out.trans U9.out)).mono ?_; rintro x wI ⟨rfl, uI⟩
                    cases b5
                    · have HF := Lib.hid (show dn = false by rw [S.out]; simp)
                      go_wp2; go_ret
                      exact ⟨ret_bool (by rw [HF.out]; rfl), UR.out.trans (UG.out.trans (U9.out.trans uI))⟩
                    · have HN := Lib.hid (show doneS m comp ids ⟨w0, w1, w2⟩ (prevT ds ((j0 + 1) + 1)) (ds.drop ((j0 + 1) + 1)) = dn by rw [S.out]; simp)
                      go_wp2
                      go_roundw
                      case rel => exact ⟨⟨(j0 + 1) + 1, by omega, by go_num, HN⟩, UW.out.trans (UG.out.trans (U9.out.trans uI))⟩
                      case measure => simp [intOf]; omega
                  · have HF := Lib.hid (show dn = false by rw [S.out]; simp [hs])
                    have hd1 : (n0 != p10) = true := by simp [hs]
                    go_wp2; go_ret
                    exact ⟨ret_bool (by rw [HF.out]; rfl), UR.out.trans (UG.out.trans U9.out)⟩
              · have g1 : ¬ ((((j0 + 1) : Nat) : Int) + 1 < nd) := by omega
                have hnx : (⟨w0, w1, w2⟩ : Cst) = ⟨n0, n1, n2⟩ := by have := HNX.out; rwa [if_neg hnj] at this
                injection hnx with q0 q1 q2
                subst q0 q1 q2
                have i7 : IntKind.i64.wrap ((((j0 + 1) : Nat) : Int) + 1) = (((j0 + 1) : Nat) : Int) + 1 := IntWalk.i64_in _ (by omega)
                obtain ⟨h10, h11⟩ := And.intro (E8.out.cell (j := 10) rfl) (E8.out.cell (j := 11) rfl)
                have l8_ := E8.out.lt
                have y3 := (Y.out.up UG.out).cell (j := 3) rfl
                have U9 := DD
                cases b4
                · have HF := Lib.hid (show dn = false by rw [S.out]; simp)
                  clear S
                  have cn := CNq.out
                  go_wp2; go_ret
                  exact ⟨ret_bool (by rw [HF.out]; rfl), UR.out.trans (UG.out.trans U9.out)⟩
                · have hqd := HB4.out
                  unfold eqD at hqd; simp only [Bool.and_eq_true, decide_eq_true_eq] at hqd; obtain ⟨⟨hq0, hq1⟩, hq2⟩ := hqd
                  replace hq0 := hq0.symm
                  replace hq1 := hq1.symm
                  replace hq2 := hq2.symm
                  subst hq0 hq1 hq2; clear CNq HB4
                  by_cases hs : w0 = p10
                  · subst hs
                    go_wp2_with fail
                    refine (CSq.out _ _ _ _ (by omega) ((HES.out.up U9.out)) (UG.out.trans U9.out)).mono ?_; rintro x wI ⟨rfl, uI⟩
                    cases b5
                    · have HF := Lib.hid (show dn = false by rw [S.out]; simp)
                      go_wp2; go_ret
                      exact ⟨ret_bool (by rw [HF.out]; rfl), UR.out.trans (UG.out.trans (U9.out.trans uI))⟩
                    · have HN := Lib.hid (show doneS m comp ids ⟨w0, w1, w2⟩ (prevT ds ((j0 + 1) + 1)) (ds.drop ((j0 + 1) + 1)) = dn by rw [S.out]; simp)
                      go_wp2
                      go_roundw
                      case rel => exact ⟨⟨(j0 + 1) + 1, by omega, by go_num, HN⟩, UW.out.trans (UG.out.trans (U9.out.trans uI))⟩
                      case measure => simp [intOf]; omega
                  · have HF := Lib.hid (show dn = false by rw [S.out]; simp [hs])
                    have hd1 : (w0 != p10) = true := by simp [hs]
                    go_wp2; go_ret
                    exact ⟨ret_bool (by rw [HF.out]; rfl), UR.out.trans (UG.out.trans U9.out)⟩
    · obtain rfl : j = nd := by omega
      have i4 : ¬ (j : Int) < j := by omega
      have HT := Lib.hid (show dn = true by rw [← HR.out]; exact SE.out j _ (by rw [LE.out]; omega))
      clear ur
      go_wp2_with fail
      by_cases hz : j = 0
      · subst hz
        refine region_mixH (fun w' => Up wr w') [(0, true), (1, true), (2, true), (3, true), (4, true), (5, true), (6, true), (7, true), (8, true), (9, true), (10, true), (11, true), (12, true), (13, true), (14, true), (15, true), (16, true), (17, true), (18, true), (19, true), (20, true), (21, true), (22, true), (23, true), (24, true), (25, true), (26, true)] (by kernel_rfl) (by kernel_rfl) (Up.refl _).drew ?_; refine mixH_take rfl (by rfl) ?_; apply Exists.intro; refine ⟨fun w1 hS1 => ?_, ?_⟩
        · clear hS1
          go_simp
          try rfl
        go_simp; refine mixH_take rfl (by rfl) ?_; apply Exists.intro; refine ⟨fun w1 hS1 => ?_, ?_⟩
        · have y4 := (Y.out.up hS1).cell (j := 4) rfl
          have ly_ := (Y.out.up hS1).lt
          clear hS1; go_simp
          try rfl
        go_simp
        iterate 3
          refine mixH_take rfl (by rfl) ?_; apply Exists.intro; refine ⟨fun w1 hS1 => ?_, ?_⟩
          · clear hS1
            go_simp
            try rfl
          go_simp
        iterate 4
          refine mixH_skip rfl (by rfl) ?_; go_simp
        iterate 2
          refine mixH_take rfl (by rfl) ?_; apply Exists.intro; refine ⟨fun w1 hS1 => ?_, ?_⟩
          · clear hS1
            go_simp
            try rfl
          go_simp
        iterate 14
          refine mixH_skip rfl (by rfl) ?_; go_simp
        iterate 2
          refine mixH_take rfl (by rfl) ?_; apply Exists.intro; refine ⟨fun w1 hS1 => ?_, ?_⟩
          · clear hS1
            go_simp
            try rfl
          go_simp
        refine mixH_nil ?_; go_wp2; go_ret
        exact ⟨ret_bool (by rw [HT.out, LT.out, LE.out]; cases ws <;> simp [joinT, behT]), UR.out.trans (Up.refl _).drew⟩
      · by_cases hzw : nw = 0
        · subst hzw
          have hw0 : ws = [] := by have := LW.out; cases ws <;> simp_all
          have hz1 : (j == 0) = false := by simpa using hz
          have hz2 : decide (j = 0) = false := decide_eq_false hz
          have hz3 : ((j : Int) == 0) = false := by simpa using hz
          refine region_mixH (fun w' => Up wr w') [(0, true), (1, true), (2, true), (3, true), (4, true), (5, true), (6, true), (7, true), (8, true), (9, true), (10, true), (11, true), (12, true), (13, true), (14, true), (15, true), (16, true), (17, true), (18, true), (19, true), (20, true), (21, true), (22, true), (23, true), (24, true), (25, true), (26, true)] (by kernel_rfl) (by kernel_rfl) (Up.refl _).drew ?_; refine mixH_take rfl (by rfl) ?_; apply Exists.intro; refine ⟨fun w1 hS1 => ?_, ?_⟩
          · clear hS1
            go_simp
            try rfl
          go_simp; refine mixH_take rfl (by rfl) ?_; apply Exists.intro; refine ⟨fun w1 hS1 => ?_, ?_⟩
          · have y4 := (Y.out.up hS1).cell (j := 4) rfl
            have ly_ := (Y.out.up hS1).lt
            clear hS1; go_simp
            try rfl
          go_simp
          iterate 4
            refine mixH_take rfl (by rfl) ?_; apply Exists.intro; refine ⟨fun w1 hS1 => ?_, ?_⟩
            · clear hS1
              go_simp
              try rfl
            go_simp
          refine mixH_take rfl (by rfl) ?_; apply Exists.intro; refine ⟨fun w1 hS1 => ?_, ?_⟩
          · have y5 := (Y.out.up hS1).cell (j := 5) rfl
            have ly_ := (Y.out.up hS1).lt
            clear hS1; go_simp
            try rfl
          go_simp
          iterate 4
            refine mixH_take rfl (by rfl) ?_; apply Exists.intro; refine ⟨fun w1 hS1 => ?_, ?_⟩
            · clear hS1
              go_simp
              try rfl
            go_simp
          iterate 14
            refine mixH_skip rfl (by rfl) ?_; go_simp
          iterate 2
            refine mixH_take rfl (by rfl) ?_; apply Exists.intro; refine ⟨fun w1 hS1 => ?_, ?_⟩
            · clear hS1
              go_simp
              try rfl
            go_simp
          refine mixH_nil ?_; go_wp2; go_ret
          exact ⟨ret_bool (by rw [HT.out, LT.out, LE.out]; rw [hw0]; simp [joinT]), UR.out.trans (Up.refl _).drew⟩
        · have hz1 : (j == 0) = false := by simpa using hz
          have hz2 : decide (j = 0) = false := decide_eq_false hz
          have hz3 : ((j : Int) == 0) = false := by simpa using hz
          have hv1 : (nw == 0) = false := by simpa using hzw
          have hv3 : ((nw : Int) == 0) = false := by simpa using hzw
          obtain ⟨j0, rfl⟩ : ∃ j0, j = j0 + 1 := ⟨j - 1, by omega⟩; obtain ⟨b, off, hA, hb, hc⟩ := (HE.out.up UR.out).2.2 (by omega); subst hA
          have HC := Lib.hid (fun W (u : Up wr W) => (hc j0 (by omega)).up u hb)
          have hlb := Lib.hid hb
          obtain ⟨bv, ov, hV, hv, hcv⟩ := (HW.out.up UR.out).2 (by omega); subst hV
          have HV := Lib.hid (fun W (u : Up wr W) => (hcv 0 (by omega)).up u hv)
          have hlw := Lib.hid hv
          clear hc hb hcv hv
          generalize hqq : (ds.getD j0 default).it = q at *
          have HQ := Lib.hid hqq
          generalize hqw : ws.getD 0 default = v at *
          have HQW := Lib.hid hqw
          have ct := CT.out q v
          have HLT := Lib.hid (show joinT (lastT none ds) ws = ltR q v by
            rw [LT.out, LE.out, if_neg (by omega), ← hqq, ← hqw]
            have := LW.out
            cases ws with
            | nil => simp at this; omega
            | cons x r => simp [joinT, behT])
          generalize ltR q v = bl at ct HLT
          obtain ⟨⟨q0, q1, q2, q3, q4, q5⟩, q6⟩ := q; obtain ⟨⟨v0, v1, v2, v3, v4, v5⟩, v6⟩ := v; unfold Rec.v at ct; dsimp only at ct
          have CTr := Lib.hid ct
          clear ct hqq hqw
          have k1 : IntKind.i64.wrap ((j0 : Int) + 1 - 1) = (j0 : Int) := by rw [show (j0 : Int) + 1 - 1 = (j0 : Int) by omega]; exact IntWalk.i64_in _ (by omega)
          have k2 : (j0 : Int) + 1 - 1 = (j0 : Int) := by omega
          have k3 : IntKind.i64.wrap (j0 : Int) = (j0 : Int) := IntWalk.i64_in _ (by omega)
          have k6 : 0 < nw := by omega
          have k8 : (j0 : Int) < (j0 : Int) + 1 := by omega
          have k9 : j0 < j0 + 1 := by omega
          have k7 : (0 : Int) < nw := by omega
          refine region_mixH (fun w' => Up wr w') [(0, true), (1, true), (2, true), (3, true), (4, true), (5, true), (6, true), (7, true), (8, true), (9, true), (10, true), (11, true), (12, true), (13, true), (14, true), (15, true), (16, true), (17, true), (18, true), (19, true), (20, true), (21, true), (22, true), (23, true), (24, false), (25, true), (26, true)] (by kernel_rfl) (by kernel_rfl) (Up.refl _).drew ?_; refine mixH_take rfl (by rfl) ?_; apply Exists.intro; refine ⟨fun w1 hS1 => ?_, ?_⟩
          · clear hS1
            go_simp
            try rfl
          go_simp; refine mixH_take rfl (by rfl) ?_; apply Exists.intro; refine ⟨fun w1 hS1 => ?_, ?_⟩
          · have y4 := (Y.out.up hS1).cell (j := 4) rfl
            have ly_ := (Y.out.up hS1).lt
            clear hS1; go_simp
            try rfl
          go_simp
          iterate 4
            refine mixH_take rfl (by rfl) ?_; apply Exists.intro; refine ⟨fun w1 hS1 => ?_, ?_⟩
            · clear hS1
              go_simp
              try rfl
            go_simp
          refine mixH_take rfl (by rfl) ?_; apply Exists.intro; refine ⟨fun w1 hS1 => ?_, ?_⟩
          · have y5 := (Y.out.up hS1).cell (j := 5) rfl
            have ly_ := (Y.out.up hS1).lt
            clear hS1; go_simp
            try rfl
          go_simp
          iterate 5
            refine mixH_take rfl (by rfl) ?_; apply Exists.intro; refine ⟨fun w1 hS1 => ?_, ?_⟩
            · clear hS1
              go_simp
              try rfl
            go_simp
          refine mixH_take rfl (by rfl) ?_; apply Exists.intro; refine ⟨fun w1 hS1 => ?_, ?_⟩
          · have y4 := (Y.out.up hS1).cell (j := 4) rfl
            have ly_ := (Y.out.up hS1).lt
            clear hS1; go_simp
            try rfl
          go_simp; refine mixH_take rfl (by rfl) ?_; apply Exists.intro; refine ⟨fun w1 hS1 => ?_, ?_⟩
          · clear hS1
            go_simp
            try rfl
          go_simp; refine mixH_take rfl (by rfl) ?_; apply Exists.intro; refine ⟨fun w1 hS1 => ?_, ?_⟩
          · have y4 := (Y.out.up hS1).cell (j := 4) rfl
            have ly_ := (Y.out.up hS1).lt
            clear hS1; go_simp
            try rfl
          go_simp
          iterate 4
            refine mixH_take rfl (by rfl) ?_; apply Exists.intro; refine ⟨fun w1 hS1 => ?_, ?_⟩
            · clear hS1
              go_simp
              try rfl
            go_simp
          refine mixH_take rfl (by rfl) ?_; apply Exists.intro; refine ⟨fun w1 hS1 => ?_, ?_⟩
          · have a1 := HC.out _ hS1
            obtain ⟨Q3, q3, f3, ⟨c0, c1, c2, c3, c4, c5, c6, -⟩, -, -⟩ := a1; rw [HQ.out] at c0 c1 c2 c3 c4 c5 c6; dsimp only at c0 c1 c2 c3 c4 c5 c6
            have lq_ := Nat.lt_of_lt_of_le hlb.out hS1.size
            clear hS1; go_simp
            try rfl
          go_simp; refine mixH_take rfl (by rfl) ?_; apply Exists.intro; refine ⟨fun w1 hS1 => ?_, ?_⟩
          · clear hS1
            go_simp
            try rfl
          go_simp; refine mixH_take rfl (by rfl) ?_; apply Exists.intro; refine ⟨fun w1 hS1 => ?_, ?_⟩
          · have y5 := (Y.out.up hS1).cell (j := 5) rfl
            have ly_ := (Y.out.up hS1).lt
            clear hS1; go_simp
            try rfl
          go_simp; refine mixH_take rfl (by rfl) ?_; apply Exists.intro; refine ⟨fun w1 hS1 => ?_, ?_⟩
          · clear hS1
            go_simp
            try rfl
          go_simp; refine mixH_take rfl (by rfl) ?_; apply Exists.intro; refine ⟨fun w1 hS1 => ?_, ?_⟩
          · have a1 := HV.out _ hS1
            unfold RecAt at a1
            try rw [HQW.out] at a1
            dsimp only at a1; simp only [Nat.zero_mul, Nat.add_zero] at a1; obtain ⟨c0, c1, c2, c3, c4, c5, c6⟩ := a1
            have lv_ := Nat.lt_of_lt_of_le hlw.out hS1.size
            clear hS1; go_simp
            try rfl
          go_simp; refine mixH_go rfl (by rfl) (fun K hK => ?_); go_simp; refine (CTr.out _).mono ?_; rintro z wC ⟨rfl, uC⟩; refine hK _ _ ((Up.refl _).drew.trans uC) ?_; clear hK K; go_simp
          iterate 2
            refine mixH_take rfl (by rfl) ?_; apply Exists.intro; refine ⟨fun w1 hS1 => ?_, ?_⟩
            · clear hS1
              go_simp
              try rfl
            go_simp
          refine mixH_nil ?_; go_wp2; go_ret
          exact ⟨ret_bool (by rw [HT.out, HLT.out]; rfl), UR.out.trans ((Up.refl _).drew.trans uC)⟩
end Go.Proofs.YtlkmhmiamdbhcabGreat

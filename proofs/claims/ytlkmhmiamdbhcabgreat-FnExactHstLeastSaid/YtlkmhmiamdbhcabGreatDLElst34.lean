/-
  What hosts returns, in one sentence: whether the host is one; for every host that lies in memory.
-/
import Derived.Test.YtlkmhmiamdbhcabGreatDLElst28
import Derived.Test.YtlkmhmiamdbhcabGreatDLElst30
import Derived.Test.YtlkmhmiamdbhcabGreatDLElst33
namespace Go.Proofs.YtlkmhmiamdbhcabGreat
set_option maxRecDepth 100000
open Go.RowKit
set_option maxHeartbeats 40000000 in
theorem hosts_any (mb : Nat) (m : Mdl) (comp w0 w1 w2 ids : Int) (Ad : Option Addr) (nd cd : Nat) (Aw : Option Addr) (nw cw : Nat) (Aa : Option Addr) (na ca : Nat) (Ak : Option Addr) (nk ck : Nat) (ds : List Don) (ws vs : List Rec) (ks : List Kep) (w : World) (hM : Mach w mb m) (hm : mdlB m = true) (hml : m.rules.length ≤ 4) (hD : Dons w Ad nd ds) (hW : Recs w Aw nw ws) (hA : Recs w Aa na vs) (hK : Keps w Ak nk ks) (hl : nd ≤ 1048576 ∧ nw ≤ 1048576 ∧ na ≤ 1048576 ∧ nk ≤ 1048576) (hS : SmallD ds) :
    Calls Tryz.prog 69 #[.agg #[.map (some mb), .int .i64 m.rules.length, .int .i64 m.til], .int .i64 comp, .agg #[.int .i64 w0, .int .i64 w1, .int .i64 w2, .int .i64 ids, .slice Ad nd cd, .slice Aw nw cw, .slice Aa na ca, .slice Ak nk ck]] w fun x w' => x = .returned (.bool (hostB m comp ⟨⟨w0, w1, w2⟩, ids, ds, ws, vs, ks⟩)) ∧ Up w w' := by
  obtain ⟨ld, lw, la, lk⟩ := hl
  have hL : (itsOf ds ++ ws).length = nd + nw := by rw [List.length_append, itsOf, List.length_map, hD.1, hW.1]
  have CO := Lib.hid (fun W (u : Up w W) => itemsOf_any Ad nd cd ds W ld (hD.up u))
  have CC := Lib.hid (fun A1 c W (h1 : Recs W A1 nd (itsOf ds)) (u : Up w W) => concatI2 A1 nd c (itsOf ds) Aw nw cw ws W h1 (hW.up u) (by omega))
  unfold NewIt at CC; rw [hL] at CC
  have CI := Lib.hid (fun A c W (h : Recs W A (nd + nw) (itsOf ds ++ ws)) => itemsFor_any (some mb) m.rules.length m.til comp A (nd + nw) c (itsOf ds ++ ws) W (by omega) h)
  have CJ := Lib.hid (fun W (u : Up w W) => itemsFor_any (some mb) m.rules.length m.til comp Aa na ca vs W (by omega) (hA.up u))
  have CK := Lib.hid (fun bM bC bH arr W (u : Up w W) h1 h2 h3 h4 => everyK_any Ak nk ck ks (some mb) m.rules.length m.til comp ids bM bC bH arr W (by omega) (hK.up u) h1 h2 h3 h4)
  have CX := Lib.hid (fun W (u : Up w W) hi ha => explains_any mb m comp w0 w1 w2 ids Ad nd cd Aw nw cw Aa na ca Ak nk ck ds W (hM.up u) hm hi (hD.up u) (by omega) hS ha)
  have CS := Lib.hid (fun W => implCst_any ⟨w0, w1, w2⟩ W)
  have CW := Lib.hid (fun W => within_any comp 0 ((m.rules.length : Int) - 1) W)
  have CV := Lib.hid (fun W => within_any ids 0 9999 W)
  have hw : IntKind.i64.wrap ((m.rules.length : Int) - 1) = (m.rules.length : Int) - 1 := IntWalk.i64_in _ (by omega)
  have HI := Lib.hid (show inB ids 0 9999 = true → 0 ≤ ids ∧ ids ≤ 9999 from fun h => inB_iff.1 h)
  have HA := Lib.hid (show (riseT (itsOf ds ++ ws) && (itsOf ds ++ ws).all (itemForB m.rules.length m.til comp)) = true → (itsOf ds).all (itemForB m.rules.length m.til comp) = true from fun h => by
    rw [Bool.and_eq_true, List.all_append, Bool.and_eq_true] at h
    exact h.2.1)
  unfold hostB; dsimp only; clear hM hD hW hA hK hS hL hm
  generalize inB comp 0 ((m.rules.length : Int) - 1) = c1 at CW ⊢
  generalize cstB ⟨w0, w1, w2⟩ = c2 at CS ⊢
  generalize inB ids 0 9999 = c3 at CV HI ⊢
  generalize (riseT (itsOf ds ++ ws) && (itsOf ds ++ ws).all (itemForB m.rules.length m.til comp)) = c4 at CI HA ⊢
  generalize (riseT vs && vs.all (itemForB m.rules.length m.til comp)) = c5 at CJ ⊢
  generalize ks.all (keepB m.rules.length m.til comp ids) = c6 at CK ⊢
  generalize explB m ids ⟨w0, w1, w2⟩ ds = c7 at CX ⊢
  have X0 := Lib.hid (((Blk.new w #[.map (some mb), .int .i64 m.rules.length, .int .i64 m.til] 125).alloc (.cells #[.int .i64 comp] 3)).alloc (.cells #[.int .i64 w0, .int .i64 w1, .int .i64 w2, .int .i64 ids, .slice Ad nd cd, .slice Aw nw cw, .slice Aa na ca, .slice Ak nk ck] 46))
  have X1 := Lib.hid ((Blk.new (w.alloc (.cells #[.map (some mb), .int .i64 m.rules.length, .int .i64 m.til] 125)) #[.int .i64 comp] 3).alloc (.cells #[.int .i64 w0, .int .i64 w1, .int .i64 w2, .int .i64 ids, .slice Ad nd cd, .slice Aw nw cw, .slice Aa na ca, .slice Ak nk ck] 46))
  have X2 := Lib.hid (Blk.new ((w.alloc (.cells #[.map (some mb), .int .i64 m.rules.length, .int .i64 m.til] 125)).alloc (.cells #[.int .i64 comp] 3)) #[.int .i64 w0, .int .i64 w1, .int .i64 w2, .int .i64 ids, .slice Ad nd cd, .slice Aw nw cw, .slice Aa na ca, .slice Ak nk ck] 46)
  simp only [World.size_alloc] at X1 X2
  have U := Lib.hid ((((Up.refl w).alloc (.cells #[.map (some mb), .int .i64 m.rules.length, .int .i64 m.til] 125)).alloc (.cells #[.int .i64 comp] 3)).alloc (.cells #[.int .i64 w0, .int .i64 w1, .int .i64 w2, .int .i64 ids, .slice Ad nd cd, .slice Aw nw cw, .slice Aa na ca, .slice Ak nk ck] 46))
  go_enter Tryz.func69, Tryz.ntmps69
  go_wp2_with fail
  generalize ((w.alloc (.cells #[.map (some mb), .int .i64 m.rules.length, .int .i64 m.til] 125)).alloc (.cells #[.int .i64 comp] 3)).alloc (.cells #[.int .i64 w0, .int .i64 w1, .int .i64 w2, .int .i64 ids, .slice Ad nd cd, .slice Aw nw cw, .slice Aa na ca, .slice Ak nk ck] 46) = W at *
  generalize hb2 : w.heap.size + 1 + 1 = b2 at *
  generalize hb1 : w.heap.size + 1 = b1 at *
  generalize hb0 : w.heap.size = b0 at *
  clear hb0 hb1 hb2
  cases c1
  · refine region_mixH (fun w' => Up W w') [(0, true), (1, true), (2, true), (3, true), (4, false), (5, true), (6, true), (7, true), (8, true), (9, true), (10, true), (11, true), (12, true), (13, true), (14, true), (15, true), (16, true), (17, true), (18, true), (19, true), (21, true), (22, true), (20, true), (23, true), (24, true), (25, true), (26, true), (27, true), (28, true), (29, true), (30, true), (31, true), (32, true), (33, true), (34, true), (35, true), (36, true), (37, true), (38, true), (39, true), (40, true), (41, true), (42, true), (43, true), (44, true), (45, true)] (by kernel_rfl) (by kernel_rfl) (Up.refl _).drew ?_
    refine mixH_take rfl (by rfl) ?_; apply Exists.intro; refine ⟨fun w1 hS1 => ?_, ?_⟩
    · have c0 := (X1.out.up hS1).cell (j := 0) rfl
      have l1 := (X1.out.up hS1).lt
      clear hS1; go_simp
      try rfl
    go_simp; refine mixH_take rfl (by rfl) ?_; apply Exists.intro; refine ⟨fun w1 hS1 => ?_, ?_⟩
    · clear hS1
      go_simp
      try rfl
    go_simp; refine mixH_take rfl (by rfl) ?_; apply Exists.intro; refine ⟨fun w1 hS1 => ?_, ?_⟩
    · obtain ⟨m0, m1, m2⟩ := And.intro ((X0.out.up hS1).cell (j := 0) rfl) (And.intro ((X0.out.up hS1).cell (j := 1) rfl) ((X0.out.up hS1).cell (j := 2) rfl))
      have l0 := (X0.out.up hS1).lt
      clear hS1; go_simp
      try rfl
    go_simp; refine mixH_take rfl (by rfl) ?_; apply Exists.intro; refine ⟨fun w1 hS1 => ?_, ?_⟩
    · clear hS1
      go_simp
      try rfl
    go_simp; refine mixH_go rfl (by rfl) (fun K hK => ?_); go_simp; refine (CW.out _).mono ?_; rintro x w2 ⟨rfl, rfl⟩; refine hK _ _ (Up.refl _).drew ?_; clear hK K; go_simp; refine mixH_take rfl (by rfl) ?_; apply Exists.intro; refine ⟨fun w1 hS1 => ?_, ?_⟩
    · clear hS1
      go_simp
      try rfl
    go_simp
    iterate 3
      refine mixH_skip rfl (by rfl) ?_; go_simp
    iterate 2
      refine mixH_take rfl (by rfl) ?_; apply Exists.intro; refine ⟨fun w1 hS1 => ?_, ?_⟩
      · clear hS1
        go_simp
        try rfl
      go_simp
    iterate 3
      refine mixH_skip rfl (by rfl) ?_; go_simp
    iterate 2
      refine mixH_take rfl (by rfl) ?_; apply Exists.intro; refine ⟨fun w1 hS1 => ?_, ?_⟩
      · clear hS1
        go_simp
        try rfl
      go_simp
    iterate 10
      refine mixH_skip rfl (by rfl) ?_; go_simp
    iterate 2
      refine mixH_take rfl (by rfl) ?_; apply Exists.intro; refine ⟨fun w1 hS1 => ?_, ?_⟩
      · clear hS1
        go_simp
        try rfl
      go_simp
    iterate 5
      refine mixH_skip rfl (by rfl) ?_; go_simp
    iterate 2
      refine mixH_take rfl (by rfl) ?_; apply Exists.intro; refine ⟨fun w1 hS1 => ?_, ?_⟩
      · clear hS1
        go_simp
        try rfl
      go_simp
    iterate 4
      refine mixH_skip rfl (by rfl) ?_; go_simp
    iterate 2
      refine mixH_take rfl (by rfl) ?_; apply Exists.intro; refine ⟨fun w1 hS1 => ?_, ?_⟩
      · clear hS1
        go_simp
        try rfl
      go_simp
    iterate 3
      refine mixH_skip rfl (by rfl) ?_; go_simp
    iterate 2
      refine mixH_take rfl (by rfl) ?_; apply Exists.intro; refine ⟨fun w1 hS1 => ?_, ?_⟩
      · clear hS1
        go_simp
        try rfl
      go_simp
    refine mixH_nil ?_
    have UE := Lib.hid (U.out.trans (Up.refl _).drew)
    go_wp2; go_ret
    exact ⟨rfl, UE.out⟩
  · cases c2
    · refine region_mixH (fun w' => Up W w') [(0, true), (1, true), (2, true), (3, true), (4, false), (5, true), (6, true), (7, true), (8, false), (9, true), (10, true), (11, true), (12, true), (13, true), (14, true), (15, true), (16, true), (17, true), (18, true), (19, true), (21, true), (22, true), (20, true), (23, true), (24, true), (25, true), (26, true), (27, true), (28, true), (29, true), (30, true), (31, true), (32, true), (33, true), (34, true), (35, true), (36, true), (37, true), (38, true), (39, true), (40, true), (41, true), (42, true), (43, true), (44, true), (45, true)] (by kernel_rfl) (by kernel_rfl) (Up.refl _).drew ?_
      refine mixH_take rfl (by rfl) ?_; apply Exists.intro; refine ⟨fun w1 hS1 => ?_, ?_⟩
      · have c0 := (X1.out.up hS1).cell (j := 0) rfl
        have l1 := (X1.out.up hS1).lt
        clear hS1; go_simp
        try rfl
      go_simp; refine mixH_take rfl (by rfl) ?_; apply Exists.intro; refine ⟨fun w1 hS1 => ?_, ?_⟩
      · clear hS1
        go_simp
        try rfl
      go_simp; refine mixH_take rfl (by rfl) ?_; apply Exists.intro; refine ⟨fun w1 hS1 => ?_, ?_⟩
      · obtain ⟨m0, m1, m2⟩ := And.intro ((X0.out.up hS1).cell (j := 0) rfl) (And.intro ((X0.out.up hS1).cell (j := 1) rfl) ((X0.out.up hS1).cell (j := 2) rfl))
        have l0 := (X0.out.up hS1).lt
        clear hS1; go_simp
        try rfl
      go_simp; refine mixH_take rfl (by rfl) ?_; apply Exists.intro; refine ⟨fun w1 hS1 => ?_, ?_⟩
      · clear hS1
        go_simp
        try rfl
      go_simp; refine mixH_go rfl (by rfl) (fun K hK => ?_); go_simp; refine (CW.out _).mono ?_; rintro x w2 ⟨rfl, rfl⟩; refine hK _ _ (Up.refl _).drew ?_; clear hK K; go_simp
      iterate 2
        refine mixH_take rfl (by rfl) ?_; apply Exists.intro; refine ⟨fun w1 hS1 => ?_, ?_⟩
        · clear hS1
          go_simp
          try rfl
        go_simp
      refine mixH_take rfl (by rfl) ?_; apply Exists.intro; refine ⟨fun w1 hS1 => ?_, ?_⟩
      · have h0 := (X2.out.up hS1).cell (j := 0) rfl
        have h1 := (X2.out.up hS1).cell (j := 1) rfl
        have h2 := (X2.out.up hS1).cell (j := 2) rfl
        have l2 := (X2.out.up hS1).lt
        clear hS1; go_simp
        try rfl
      go_simp; refine mixH_go rfl (by rfl) (fun K hK => ?_); go_simp; refine (CS.out _).mono ?_; rintro x wA ⟨rfl, uA⟩; refine hK _ _ ((Up.refl _).drew.trans uA) ?_; clear hK K; go_simp
      iterate 2
        refine mixH_take rfl (by rfl) ?_; apply Exists.intro; refine ⟨fun w1 hS1 => ?_, ?_⟩
        · clear hS1
          go_simp
          try rfl
        go_simp
      iterate 3
        refine mixH_skip rfl (by rfl) ?_; go_simp
      iterate 2
        refine mixH_take rfl (by rfl) ?_; apply Exists.intro; refine ⟨fun w1 hS1 => ?_, ?_⟩
        · clear hS1
          go_simp
          try rfl
        go_simp
      iterate 10
        refine mixH_skip rfl (by rfl) ?_; go_simp
      iterate 2
        refine mixH_take rfl (by rfl) ?_; apply Exists.intro; refine ⟨fun w1 hS1 => ?_, ?_⟩
        · clear hS1
          go_simp
          try rfl
        go_simp
      iterate 5
        refine mixH_skip rfl (by rfl) ?_; go_simp
      iterate 2
        refine mixH_take rfl (by rfl) ?_; apply Exists.intro; refine ⟨fun w1 hS1 => ?_, ?_⟩
        · clear hS1
          go_simp
          try rfl
        go_simp
      iterate 4
        refine mixH_skip rfl (by rfl) ?_; go_simp
      iterate 2
        refine mixH_take rfl (by rfl) ?_; apply Exists.intro; refine ⟨fun w1 hS1 => ?_, ?_⟩
        · clear hS1
          go_simp
          try rfl
        go_simp
      iterate 3
        refine mixH_skip rfl (by rfl) ?_; go_simp
      iterate 2
        refine mixH_take rfl (by rfl) ?_; apply Exists.intro; refine ⟨fun w1 hS1 => ?_, ?_⟩
        · clear hS1
          go_simp
          try rfl
        go_simp
      refine mixH_nil ?_
      have UE := Lib.hid (U.out.trans ((Up.refl _).drew.trans uA))
      go_wp2; go_ret
      exact ⟨rfl, UE.out⟩
    · cases c3
      · refine region_mixH (fun w' => Up W w') [(0, true), (1, true), (2, true), (3, true), (4, false), (5, true), (6, true), (7, true), (8, false), (9, true), (10, true), (11, true), (12, true), (13, false), (14, true), (15, true), (16, true), (17, true), (18, true), (19, true), (21, true), (22, true), (20, true), (23, true), (24, true), (25, true), (26, true), (27, true), (28, true), (29, true), (30, true), (31, true), (32, true), (33, true), (34, true), (35, true), (36, true), (37, true), (38, true), (39, true), (40, true), (41, true), (42, true), (43, true), (44, true), (45, true)] (by kernel_rfl) (by kernel_rfl) (Up.refl _).drew ?_
        refine mixH_take rfl (by rfl) ?_; apply Exists.intro; refine ⟨fun w1 hS1 => ?_, ?_⟩
        · have c0 := (X1.out.up hS1).cell (j := 0) rfl
          have l1 := (X1.out.up hS1).lt
          clear hS1; go_simp
          try rfl
        go_simp; refine mixH_take rfl (by rfl) ?_; apply Exists.intro; refine ⟨fun w1 hS1 => ?_, ?_⟩
        · clear hS1
          go_simp
          try rfl
        go_simp; refine mixH_take rfl (by rfl) ?_; apply Exists.intro; refine ⟨fun w1 hS1 => ?_, ?_⟩
        · obtain ⟨m0, m1, m2⟩ := And.intro ((X0.out.up hS1).cell (j := 0) rfl) (And.intro ((X0.out.up hS1).cell (j := 1) rfl) ((X0.out.up hS1).cell (j := 2) rfl))
          have l0 := (X0.out.up hS1).lt
          clear hS1; go_simp
          try rfl
        go_simp; refine mixH_take rfl (by rfl) ?_; apply Exists.intro; refine ⟨fun w1 hS1 => ?_, ?_⟩
        · clear hS1
          go_simp
          try rfl
        go_simp; refine mixH_go rfl (by rfl) (fun K hK => ?_); go_simp; refine (CW.out _).mono ?_; rintro x w2 ⟨rfl, rfl⟩; refine hK _ _ (Up.refl _).drew ?_; clear hK K; go_simp
        iterate 2
          refine mixH_take rfl (by rfl) ?_; apply Exists.intro; refine ⟨fun w1 hS1 => ?_, ?_⟩
          · clear hS1
            go_simp
            try rfl
          go_simp
        refine mixH_take rfl (by rfl) ?_; apply Exists.intro; refine ⟨fun w1 hS1 => ?_, ?_⟩
        · have h0 := (X2.out.up hS1).cell (j := 0) rfl
          have h1 := (X2.out.up hS1).cell (j := 1) rfl
          have h2 := (X2.out.up hS1).cell (j := 2) rfl
          have l2 := (X2.out.up hS1).lt
          clear hS1; go_simp
          try rfl
        go_simp; refine mixH_go rfl (by rfl) (fun K hK => ?_); go_simp; refine (CS.out _).mono ?_; rintro x wA ⟨rfl, uA⟩; refine hK _ _ ((Up.refl _).drew.trans uA) ?_; clear hK K; go_simp
        iterate 3
          refine mixH_take rfl (by rfl) ?_; apply Exists.intro; refine ⟨fun w1 hS1 => ?_, ?_⟩
          · clear hS1
            go_simp
            try rfl
          go_simp
        refine mixH_take rfl (by rfl) ?_; apply Exists.intro; refine ⟨fun w1 hS1 => ?_, ?_⟩
        · have h3 := (X2.out.up hS1).cell (j := 3) rfl
          have l2 := (X2.out.up hS1).lt
          clear hS1; go_simp
          try rfl
        go_simp; refine mixH_go rfl (by rfl) (fun K hK => ?_); go_simp; refine (CV.out _).mono ?_; rintro x w2 ⟨rfl, rfl⟩; refine hK _ _ ((Up.refl _).drew.trans uA) ?_; clear hK K; go_simp
        iterate 2
          refine mixH_take rfl (by rfl) ?_; apply Exists.intro; refine ⟨fun w1 hS1 => ?_, ?_⟩
          · clear hS1
            go_simp
            try rfl
          go_simp
        iterate 10
          refine mixH_skip rfl (by rfl) ?_; go_simp
        iterate 2
          refine mixH_take rfl (by rfl) ?_; apply Exists.intro; refine ⟨fun w1 hS1 => ?_, ?_⟩
          · clear hS1
            go_simp
            try rfl
          go_simp
        iterate 5
          refine mixH_skip rfl (by rfl) ?_; go_simp
        iterate 2
          refine mixH_take rfl (by rfl) ?_; apply Exists.intro; refine ⟨fun w1 hS1 => ?_, ?_⟩
          · clear hS1
            go_simp
            try rfl
          go_simp
        iterate 4
          refine mixH_skip rfl (by rfl) ?_; go_simp
        iterate 2
          refine mixH_take rfl (by rfl) ?_; apply Exists.intro; refine ⟨fun w1 hS1 => ?_, ?_⟩
          · clear hS1
            go_simp
            try rfl
          go_simp
        iterate 3
          refine mixH_skip rfl (by rfl) ?_; go_simp
        iterate 2
          refine mixH_take rfl (by rfl) ?_; apply Exists.intro; refine ⟨fun w1 hS1 => ?_, ?_⟩
          · clear hS1
            go_simp
            try rfl
          go_simp
        refine mixH_nil ?_
        have UE := Lib.hid (U.out.trans ((Up.refl _).drew.trans uA))
        go_wp2; go_ret
        exact ⟨rfl, UE.out⟩
      · cases c4
        · refine region_mixH (fun w' => Up W w') [(0, true), (1, true), (2, true), (3, true), (4, false), (5, true), (6, true), (7, true), (8, false), (9, true), (10, true), (11, true), (12, true), (13, false), (14, true), (15, true), (16, true), (17, true), (18, true), (19, true), (21, true), (22, true), (20, false), (23, false), (24, false), (25, false), (26, true), (27, true), (28, true), (29, true), (30, true), (31, true), (32, true), (33, true), (34, true), (35, true), (36, true), (37, true), (38, true), (39, true), (40, true), (41, true), (42, true), (43, true), (44, true), (45, true)] (by kernel_rfl) (by kernel_rfl) (Up.refl _).drew ?_
          refine mixH_take rfl (by rfl) ?_; apply Exists.intro; refine ⟨fun w1 hS1 => ?_, ?_⟩
          · have c0 := (X1.out.up hS1).cell (j := 0) rfl
            have l1 := (X1.out.up hS1).lt
            clear hS1; go_simp
            try rfl
          go_simp; refine mixH_take rfl (by rfl) ?_; apply Exists.intro; refine ⟨fun w1 hS1 => ?_, ?_⟩
          · clear hS1
            go_simp
            try rfl
          go_simp; refine mixH_take rfl (by rfl) ?_; apply Exists.intro; refine ⟨fun w1 hS1 => ?_, ?_⟩
          · obtain ⟨m0, m1, m2⟩ := And.intro ((X0.out.up hS1).cell (j := 0) rfl) (And.intro ((X0.out.up hS1).cell (j := 1) rfl) ((X0.out.up hS1).cell (j := 2) rfl))
            have l0 := (X0.out.up hS1).lt
            clear hS1; go_simp
            try rfl
          go_simp; refine mixH_take rfl (by rfl) ?_; apply Exists.intro; refine ⟨fun w1 hS1 => ?_, ?_⟩
          · clear hS1
            go_simp
            try rfl
          go_simp; refine mixH_go rfl (by rfl) (fun K hK => ?_); go_simp; refine (CW.out _).mono ?_; rintro x w2 ⟨rfl, rfl⟩; refine hK _ _ (Up.refl _).drew ?_; clear hK K; go_simp
          iterate 2
            refine mixH_take rfl (by rfl) ?_; apply Exists.intro; refine ⟨fun w1 hS1 => ?_, ?_⟩
            · clear hS1
              go_simp
              try rfl
            go_simp
          refine mixH_take rfl (by rfl) ?_; apply Exists.intro; refine ⟨fun w1 hS1 => ?_, ?_⟩
          · have h0 := (X2.out.up hS1).cell (j := 0) rfl
            have h1 := (X2.out.up hS1).cell (j := 1) rfl
            have h2 := (X2.out.up hS1).cell (j := 2) rfl
            have l2 := (X2.out.up hS1).lt
            clear hS1; go_simp
            try rfl
          go_simp; refine mixH_go rfl (by rfl) (fun K hK => ?_); go_simp; refine (CS.out _).mono ?_; rintro x wA ⟨rfl, uA⟩; refine hK _ _ ((Up.refl _).drew.trans uA) ?_; clear hK K; go_simp
          iterate 3
            refine mixH_take rfl (by rfl) ?_; apply Exists.intro; refine ⟨fun w1 hS1 => ?_, ?_⟩
            · clear hS1
              go_simp
              try rfl
            go_simp
          refine mixH_take rfl (by rfl) ?_; apply Exists.intro; refine ⟨fun w1 hS1 => ?_, ?_⟩
          · have h3 := (X2.out.up hS1).cell (j := 3) rfl
            have l2 := (X2.out.up hS1).lt
            clear hS1; go_simp
            try rfl
          go_simp; refine mixH_go rfl (by rfl) (fun K hK => ?_); go_simp; refine (CV.out _).mono ?_; rintro x w2 ⟨rfl, rfl⟩; refine hK _ _ ((Up.refl _).drew.trans uA) ?_; clear hK K; go_simp
          iterate 2
            refine mixH_take rfl (by rfl) ?_; apply Exists.intro; refine ⟨fun w1 hS1 => ?_, ?_⟩
            · clear hS1
              go_simp
              try rfl
            go_simp
          refine mixH_take rfl (by rfl) ?_; apply Exists.intro; refine ⟨fun w1 hS1 => ?_, ?_⟩
          · obtain ⟨m0, m1, m2⟩ := And.intro ((X0.out.up hS1).cell (j := 0) rfl) (And.intro ((X0.out.up hS1).cell (j := 1) rfl) ((X0.out.up hS1).cell (j := 2) rfl))
            have l0 := (X0.out.up hS1).lt
            clear hS1; go_simp
            try rfl
          go_simp; refine mixH_take rfl (by rfl) ?_; apply Exists.intro; refine ⟨fun w1 hS1 => ?_, ?_⟩
          · have c0 := (X1.out.up hS1).cell (j := 0) rfl
            have l1 := (X1.out.up hS1).lt
            clear hS1; go_simp
            try rfl
          go_simp; refine mixH_take rfl (by rfl) ?_; apply Exists.intro; refine ⟨fun w1 hS1 => ?_, ?_⟩
          · clear hS1
            go_simp
            try rfl
          go_simp; refine mixH_take rfl (by rfl) ?_; apply Exists.intro; refine ⟨fun w1 hS1 => ?_, ?_⟩
          · have h4 := (X2.out.up hS1).cell (j := 4) rfl
            have l2 := (X2.out.up hS1).lt
            clear hS1; go_simp
            try rfl
          go_simp; refine mixH_take rfl (by rfl) ?_; apply Exists.intro; refine ⟨fun w1 hS1 => ?_, ?_⟩
          · clear hS1
            go_simp
            try rfl
          go_simp; refine mixH_take rfl (by rfl) ?_; apply Exists.intro; refine ⟨fun w1 hS1 => ?_, ?_⟩
          · have h5 := (X2.out.up hS1).cell (j := 5) rfl
            have l2 := (X2.out.up hS1).lt
            clear hS1; go_simp
            try rfl
          go_simp; refine mixH_go rfl (by rfl) (fun K hK => ?_); go_simp; refine (CO.out _ (U.out.trans ((Up.refl _).drew.trans uA))).mono ?_; rintro x wB ⟨gB, rfl, eB, uB⟩; refine hK _ _ (((Up.refl _).drew.trans uA).trans uB) ?_; clear hK K; go_simp; refine mixH_go rfl (by rfl) (fun K hK => ?_); go_simp; refine hK _ _ ((((Up.refl _).drew.trans uA).trans uB).alloc _) ?_; clear hK K; go_simp; refine mixH_go rfl (by rfl) (fun K hK => ?_); go_simp; refine (CC.out _ _ _ eB (U.out.trans (((Up.refl _).drew.trans uA).trans uB))).mono ?_; rintro x wC ⟨AC, cC, rfl, -, -, eC, -, uC⟩; refine hK _ _ (((((Up.refl _).drew.trans uA).trans uB).alloc _).trans uC) ?_
          clear hK K; go_simp; refine mixH_go rfl (by rfl) (fun K hK => ?_); go_simp; refine (CI.out _ _ _ eC).mono ?_; rintro x wD ⟨rfl, uD⟩; refine hK _ _ ((((((Up.refl _).drew.trans uA).trans uB).alloc _).trans uC).trans uD) ?_; clear hK K; go_simp
          iterate 2
            refine mixH_take rfl (by rfl) ?_; apply Exists.intro; refine ⟨fun w1 hS1 => ?_, ?_⟩
            · clear hS1
              go_simp
              try rfl
            go_simp
          iterate 5
            refine mixH_skip rfl (by rfl) ?_; go_simp
          iterate 2
            refine mixH_take rfl (by rfl) ?_; apply Exists.intro; refine ⟨fun w1 hS1 => ?_, ?_⟩
            · clear hS1
              go_simp
              try rfl
            go_simp
          iterate 4
            refine mixH_skip rfl (by rfl) ?_; go_simp
          iterate 2
            refine mixH_take rfl (by rfl) ?_; apply Exists.intro; refine ⟨fun w1 hS1 => ?_, ?_⟩
            · clear hS1
              go_simp
              try rfl
            go_simp
          iterate 3
            refine mixH_skip rfl (by rfl) ?_; go_simp
          iterate 2
            refine mixH_take rfl (by rfl) ?_; apply Exists.intro; refine ⟨fun w1 hS1 => ?_, ?_⟩
            · clear hS1
              go_simp
              try rfl
            go_simp
          refine mixH_nil ?_
          have UE := Lib.hid (U.out.trans ((((((Up.refl _).drew.trans uA).trans uB).alloc _).trans uC).trans uD))
          go_wp2; go_ret
          exact ⟨rfl, UE.out⟩
        · cases c5
          · refine region_mixH (fun w' => Up W w') [(0, true), (1, true), (2, true), (3, true), (4, false), (5, true), (6, true), (7, true), (8, false), (9, true), (10, true), (11, true), (12, true), (13, false), (14, true), (15, true), (16, true), (17, true), (18, true), (19, true), (21, true), (22, true), (20, false), (23, false), (24, false), (25, false), (26, true), (27, true), (28, true), (29, true), (30, true), (31, true), (32, false), (33, true), (34, true), (35, true), (36, true), (37, true), (38, true), (39, true), (40, true), (41, true), (42, true), (43, true), (44, true), (45, true)] (by kernel_rfl) (by kernel_rfl) (Up.refl _).drew ?_
            refine mixH_take rfl (by rfl) ?_; apply Exists.intro; refine ⟨fun w1 hS1 => ?_, ?_⟩
            · have c0 := (X1.out.up hS1).cell (j := 0) rfl
              have l1 := (X1.out.up hS1).lt
              clear hS1; go_simp
              try rfl
            go_simp; refine mixH_take rfl (by rfl) ?_; apply Exists.intro; refine ⟨fun w1 hS1 => ?_, ?_⟩
            · clear hS1
              go_simp
              try rfl
            go_simp; refine mixH_take rfl (by rfl) ?_; apply Exists.intro; refine ⟨fun w1 hS1 => ?_, ?_⟩
            · obtain ⟨m0, m1, m2⟩ := And.intro ((X0.out.up hS1).cell (j := 0) rfl) (And.intro ((X0.out.up hS1).cell (j := 1) rfl) ((X0.out.up hS1).cell (j := 2) rfl))
              have l0 := (X0.out.up hS1).lt
              clear hS1; go_simp
              try rfl
            go_simp; refine mixH_take rfl (by rfl) ?_; apply Exists.intro; refine ⟨fun w1 hS1 => ?_, ?_⟩
            · clear hS1
              go_simp
              try rfl
            go_simp; refine mixH_go rfl (by rfl) (fun K hK => ?_); go_simp; refine (CW.out _).mono ?_; rintro x w2 ⟨rfl, rfl⟩; refine hK _ _ (Up.refl _).drew ?_; clear hK K; go_simp
            iterate 2
              refine mixH_take rfl (by rfl) ?_; apply Exists.intro; refine ⟨fun w1 hS1 => ?_, ?_⟩
              · clear hS1
                go_simp
                try rfl
              go_simp
            refine mixH_take rfl (by rfl) ?_; apply Exists.intro; refine ⟨fun w1 hS1 => ?_, ?_⟩
            · have h0 := (X2.out.up hS1).cell (j := 0) rfl
              have h1 := (X2.out.up hS1).cell (j := 1) rfl
              have h2 := (X2.out.up hS1).cell (j := 2) rfl
              have l2 := (X2.out.up hS1).lt
              clear hS1; go_simp
              try rfl
            go_simp; refine mixH_go rfl (by rfl) (fun K hK => ?_); go_simp; refine (CS.out _).mono ?_; rintro x wA ⟨rfl, uA⟩; refine hK _ _ ((Up.refl _).drew.trans uA) ?_; clear hK K; go_simp
            iterate 3
              refine mixH_take rfl (by rfl) ?_; apply Exists.intro; refine ⟨fun w1 hS1 => ?_, ?_⟩
              · clear hS1
                go_simp
                try rfl
              go_simp
            refine mixH_take rfl (by rfl) ?_; apply Exists.intro; refine ⟨fun w1 hS1 => ?_, ?_⟩
            · have h3 := (X2.out.up hS1).cell (j := 3) rfl
              have l2 := (X2.out.up hS1).lt
              clear hS1; go_simp
              try rfl
            go_simp; refine mixH_go rfl (by rfl) (fun K hK => ?_); go_simp; refine (CV.out _).mono ?_; rintro x w2 ⟨rfl, rfl⟩; refine hK _ _ ((Up.refl _).drew.trans uA) ?_; clear hK K; go_simp
            iterate 2
              refine mixH_take rfl (by rfl) ?_; apply Exists.intro; refine ⟨fun w1 hS1 => ?_, ?_⟩
              · clear hS1
                go_simp
                try rfl
              go_simp
            refine mixH_take rfl (by rfl) ?_; apply Exists.intro; refine ⟨fun w1 hS1 => ?_, ?_⟩
            · obtain ⟨m0, m1, m2⟩ := And.intro ((X0.out.up hS1).cell (j := 0) rfl) (And.intro ((X0.out.up hS1).cell (j := 1) rfl) ((X0.out.up hS1).cell (j := 2) rfl))
              have l0 := (X0.out.up hS1).lt
              clear hS1; go_simp
              try rfl
            go_simp; refine mixH_take rfl (by rfl) ?_; apply Exists.intro; refine ⟨fun w1 hS1 => ?_, ?_⟩
            · have c0 := (X1.out.up hS1).cell (j := 0) rfl
              have l1 := (X1.out.up hS1).lt
              clear hS1; go_simp
              try rfl
            go_simp; refine mixH_take rfl (by rfl) ?_; apply Exists.intro; refine ⟨fun w1 hS1 => ?_, ?_⟩
            · clear hS1
              go_simp
              try rfl
            go_simp; refine mixH_take rfl (by rfl) ?_; apply Exists.intro; refine ⟨fun w1 hS1 => ?_, ?_⟩
            · have h4 := (X2.out.up hS1).cell (j := 4) rfl
              have l2 := (X2.out.up hS1).lt
              clear hS1; go_simp
              try rfl
            go_simp; refine mixH_take rfl (by rfl) ?_; apply Exists.intro; refine ⟨fun w1 hS1 => ?_, ?_⟩
            · clear hS1
              go_simp
              try rfl
            go_simp; refine mixH_take rfl (by rfl) ?_; apply Exists.intro; refine ⟨fun w1 hS1 => ?_, ?_⟩
            · have h5 := (X2.out.up hS1).cell (j := 5) rfl
              have l2 := (X2.out.up hS1).lt
              clear hS1; go_simp
              try rfl
            go_simp; refine mixH_go rfl (by rfl) (fun K hK => ?_); go_simp; refine (CO.out _ (U.out.trans ((Up.refl _).drew.trans uA))).mono ?_; rintro x wB ⟨gB, rfl, eB, uB⟩; refine hK _ _ (((Up.refl _).drew.trans uA).trans uB) ?_; clear hK K; go_simp; refine mixH_go rfl (by rfl) (fun K hK => ?_); go_simp; refine hK _ _ ((((Up.refl _).drew.trans uA).trans uB).alloc _) ?_; clear hK K; go_simp; refine mixH_go rfl (by rfl) (fun K hK => ?_); go_simp; refine (CC.out _ _ _ eB (U.out.trans (((Up.refl _).drew.trans uA).trans uB))).mono ?_; rintro x wC ⟨AC, cC, rfl, -, -, eC, -, uC⟩; refine hK _ _ (((((Up.refl _).drew.trans uA).trans uB).alloc _).trans uC) ?_
            clear hK K; go_simp; refine mixH_go rfl (by rfl) (fun K hK => ?_); go_simp; refine (CI.out _ _ _ eC).mono ?_; rintro x wD ⟨rfl, uD⟩; refine hK _ _ ((((((Up.refl _).drew.trans uA).trans uB).alloc _).trans uC).trans uD) ?_; clear hK K; go_simp
            iterate 2
              refine mixH_take rfl (by rfl) ?_; apply Exists.intro; refine ⟨fun w1 hS1 => ?_, ?_⟩
              · clear hS1
                go_simp
                try rfl
              go_simp
            refine mixH_take rfl (by rfl) ?_; apply Exists.intro; refine ⟨fun w1 hS1 => ?_, ?_⟩
            · obtain ⟨m0, m1, m2⟩ := And.intro ((X0.out.up hS1).cell (j := 0) rfl) (And.intro ((X0.out.up hS1).cell (j := 1) rfl) ((X0.out.up hS1).cell (j := 2) rfl))
              have l0 := (X0.out.up hS1).lt
              clear hS1; go_simp
              try rfl
            go_simp; refine mixH_take rfl (by rfl) ?_; apply Exists.intro; refine ⟨fun w1 hS1 => ?_, ?_⟩
            · have c0 := (X1.out.up hS1).cell (j := 0) rfl
              have l1 := (X1.out.up hS1).lt
              clear hS1; go_simp
              try rfl
            go_simp; refine mixH_take rfl (by rfl) ?_; apply Exists.intro; refine ⟨fun w1 hS1 => ?_, ?_⟩
            · clear hS1
              go_simp
              try rfl
            go_simp; refine mixH_take rfl (by rfl) ?_; apply Exists.intro; refine ⟨fun w1 hS1 => ?_, ?_⟩
            · have h6 := (X2.out.up hS1).cell (j := 6) rfl
              have l2 := (X2.out.up hS1).lt
              clear hS1; go_simp
              try rfl
            go_simp; refine mixH_go rfl (by rfl) (fun K hK => ?_); go_simp; refine (CJ.out _ (U.out.trans ((((((Up.refl _).drew.trans uA).trans uB).alloc _).trans uC).trans uD))).mono ?_; rintro x wE ⟨rfl, uE⟩; refine hK _ _ (((((((Up.refl _).drew.trans uA).trans uB).alloc _).trans uC).trans uD).trans uE) ?_; clear hK K; go_simp
            iterate 2
              refine mixH_take rfl (by rfl) ?_; apply Exists.intro; refine ⟨fun w1 hS1 => ?_, ?_⟩
              · clear hS1
                go_simp
                try rfl
              go_simp
            iterate 4
              refine mixH_skip rfl (by rfl) ?_; go_simp
            iterate 2
              refine mixH_take rfl (by rfl) ?_; apply Exists.intro; refine ⟨fun w1 hS1 => ?_, ?_⟩
              · clear hS1
                go_simp
                try rfl
              go_simp
            iterate 3
              refine mixH_skip rfl (by rfl) ?_; go_simp
            iterate 2
              refine mixH_take rfl (by rfl) ?_; apply Exists.intro; refine ⟨fun w1 hS1 => ?_, ?_⟩
              · clear hS1
                go_simp
                try rfl
              go_simp
            refine mixH_nil ?_
            have UE := Lib.hid (U.out.trans (((((((Up.refl _).drew.trans uA).trans uB).alloc _).trans uC).trans uD).trans uE))
            go_wp2; go_ret
            exact ⟨rfl, UE.out⟩
          · cases c6
            · refine region_mixH (fun w' => Up W w') [(0, true), (1, true), (2, true), (3, true), (4, false), (5, true), (6, true), (7, true), (8, false), (9, true), (10, true), (11, true), (12, true), (13, false), (14, true), (15, true), (16, true), (17, true), (18, true), (19, true), (21, true), (22, true), (20, false), (23, false), (24, false), (25, false), (26, true), (27, true), (28, true), (29, true), (30, true), (31, true), (32, false), (33, true), (34, true), (35, true), (36, true), (37, true), (38, false), (39, true), (40, true), (41, true), (42, true), (43, true), (44, true), (45, true)] (by kernel_rfl) (by kernel_rfl) (Up.refl _).drew ?_
              refine mixH_take rfl (by rfl) ?_; apply Exists.intro; refine ⟨fun w1 hS1 => ?_, ?_⟩
              · have c0 := (X1.out.up hS1).cell (j := 0) rfl
                have l1 := (X1.out.up hS1).lt
                clear hS1; go_simp
                try rfl
              go_simp; refine mixH_take rfl (by rfl) ?_; apply Exists.intro; refine ⟨fun w1 hS1 => ?_, ?_⟩
              · clear hS1
                go_simp
                try rfl
              go_simp; refine mixH_take rfl (by rfl) ?_; apply Exists.intro; refine ⟨fun w1 hS1 => ?_, ?_⟩
              · obtain ⟨m0, m1, m2⟩ := And.intro ((X0.out.up hS1).cell (j := 0) rfl) (And.intro ((X0.out.up hS1).cell (j := 1) rfl) ((X0.out.up hS1).cell (j := 2) rfl))
                have l0 := (X0.out.up hS1).lt
                clear hS1; go_simp
                try rfl
              go_simp; refine mixH_take rfl (by rfl) ?_; apply Exists.intro; refine ⟨fun w1 hS1 => ?_, ?_⟩
              · clear hS1
                go_simp
                try rfl
              go_simp; refine mixH_go rfl (by rfl) (fun K hK => ?_); go_simp; refine (CW.out _).mono ?_; rintro x w2 ⟨rfl, rfl⟩; refine hK _ _ (Up.refl _).drew ?_; clear hK K; go_simp
              iterate 2
                refine mixH_take rfl (by rfl) ?_; apply Exists.intro; refine ⟨fun w1 hS1 => ?_, ?_⟩
                · clear hS1
                  go_simp
                  try rfl
                go_simp
              refine mixH_take rfl (by rfl) ?_; apply Exists.intro; refine ⟨fun w1 hS1 => ?_, ?_⟩
              · have h0 := (X2.out.up hS1).cell (j := 0) rfl
                have h1 := (X2.out.up hS1).cell (j := 1) rfl
                have h2 := (X2.out.up hS1).cell (j := 2) rfl
                have l2 := (X2.out.up hS1).lt
                clear hS1; go_simp
                try rfl
              go_simp; refine mixH_go rfl (by rfl) (fun K hK => ?_); go_simp; refine (CS.out _).mono ?_; rintro x wA ⟨rfl, uA⟩; refine hK _ _ ((Up.refl _).drew.trans uA) ?_; clear hK K; go_simp
              iterate 3
                refine mixH_take rfl (by rfl) ?_; apply Exists.intro; refine ⟨fun w1 hS1 => ?_, ?_⟩
                · clear hS1
                  go_simp
                  try rfl
                go_simp
              refine mixH_take rfl (by rfl) ?_; apply Exists.intro; refine ⟨fun w1 hS1 => ?_, ?_⟩
              · have h3 := (X2.out.up hS1).cell (j := 3) rfl
                have l2 := (X2.out.up hS1).lt
                clear hS1; go_simp
                try rfl
              go_simp; refine mixH_go rfl (by rfl) (fun K hK => ?_); go_simp; refine (CV.out _).mono ?_; rintro x w2 ⟨rfl, rfl⟩; refine hK _ _ ((Up.refl _).drew.trans uA) ?_; clear hK K; go_simp
              iterate 2
                refine mixH_take rfl (by rfl) ?_; apply Exists.intro; refine ⟨fun w1 hS1 => ?_, ?_⟩
                · clear hS1
                  go_simp
                  try rfl
                go_simp
              refine mixH_take rfl (by rfl) ?_; apply Exists.intro; refine ⟨fun w1 hS1 => ?_, ?_⟩
              · obtain ⟨m0, m1, m2⟩ := And.intro ((X0.out.up hS1).cell (j := 0) rfl) (And.intro ((X0.out.up hS1).cell (j := 1) rfl) ((X0.out.up hS1).cell (j := 2) rfl))
                have l0 := (X0.out.up hS1).lt
                clear hS1; go_simp
                try rfl
              go_simp; refine mixH_take rfl (by rfl) ?_; apply Exists.intro; refine ⟨fun w1 hS1 => ?_, ?_⟩
              · have c0 := (X1.out.up hS1).cell (j := 0) rfl
                have l1 := (X1.out.up hS1).lt
                clear hS1; go_simp
                try rfl
              go_simp; refine mixH_take rfl (by rfl) ?_; apply Exists.intro; refine ⟨fun w1 hS1 => ?_, ?_⟩
              · clear hS1
                go_simp
                try rfl
              go_simp; refine mixH_take rfl (by rfl) ?_; apply Exists.intro; refine ⟨fun w1 hS1 => ?_, ?_⟩
              · have h4 := (X2.out.up hS1).cell (j := 4) rfl
                have l2 := (X2.out.up hS1).lt
                clear hS1; go_simp
                try rfl
              go_simp; refine mixH_take rfl (by rfl) ?_; apply Exists.intro; refine ⟨fun w1 hS1 => ?_, ?_⟩
              · clear hS1
                go_simp
                try rfl
              go_simp; refine mixH_take rfl (by rfl) ?_; apply Exists.intro; refine ⟨fun w1 hS1 => ?_, ?_⟩
              · have h5 := (X2.out.up hS1).cell (j := 5) rfl
                have l2 := (X2.out.up hS1).lt
                clear hS1; go_simp
                try rfl
              go_simp; refine mixH_go rfl (by rfl) (fun K hK => ?_); go_simp; refine (CO.out _ (U.out.trans ((Up.refl _).drew.trans uA))).mono ?_; rintro x wB ⟨gB, rfl, eB, uB⟩; refine hK _ _ (((Up.refl _).drew.trans uA).trans uB) ?_; clear hK K; go_simp; refine mixH_go rfl (by rfl) (fun K hK => ?_); go_simp; refine hK _ _ ((((Up.refl _).drew.trans uA).trans uB).alloc _) ?_; clear hK K; go_simp; refine mixH_go rfl (by rfl) (fun K hK => ?_); go_simp; refine (CC.out _ _ _ eB (U.out.trans (((Up.refl _).drew.trans uA).trans uB))).mono ?_; rintro x wC ⟨AC, cC, rfl, -, -, eC, -, uC⟩; refine hK _ _ (((((Up.refl _).drew.trans uA).trans uB).alloc _).trans uC) ?_
              clear hK K; go_simp; refine mixH_go rfl (by rfl) (fun K hK => ?_); go_simp; refine (CI.out _ _ _ eC).mono ?_; rintro x wD ⟨rfl, uD⟩; refine hK _ _ ((((((Up.refl _).drew.trans uA).trans uB).alloc _).trans uC).trans uD) ?_; clear hK K; go_simp
              iterate 2
                refine mixH_take rfl (by rfl) ?_; apply Exists.intro; refine ⟨fun w1 hS1 => ?_, ?_⟩
                · clear hS1
                  go_simp
                  try rfl
                go_simp
              refine mixH_take rfl (by rfl) ?_; apply Exists.intro; refine ⟨fun w1 hS1 => ?_, ?_⟩
              · obtain ⟨m0, m1, m2⟩ := And.intro ((X0.out.up hS1).cell (j := 0) rfl) (And.intro ((X0.out.up hS1).cell (j := 1) rfl) ((X0.out.up hS1).cell (j := 2) rfl))
                have l0 := (X0.out.up hS1).lt
                clear hS1; go_simp
                try rfl
              go_simp; refine mixH_take rfl (by rfl) ?_; apply Exists.intro; refine ⟨fun w1 hS1 => ?_, ?_⟩
              · have c0 := (X1.out.up hS1).cell (j := 0) rfl
                have l1 := (X1.out.up hS1).lt
                clear hS1; go_simp
                try rfl
              go_simp; refine mixH_take rfl (by rfl) ?_; apply Exists.intro; refine ⟨fun w1 hS1 => ?_, ?_⟩
              · clear hS1
                go_simp
                try rfl
              go_simp; refine mixH_take rfl (by rfl) ?_; apply Exists.intro; refine ⟨fun w1 hS1 => ?_, ?_⟩
              · have h6 := (X2.out.up hS1).cell (j := 6) rfl
                have l2 := (X2.out.up hS1).lt
                clear hS1; go_simp
                try rfl
              go_simp; refine mixH_go rfl (by rfl) (fun K hK => ?_); go_simp; refine (CJ.out _ (U.out.trans ((((((Up.refl _).drew.trans uA).trans uB).alloc _).trans uC).trans uD))).mono ?_; rintro x wE ⟨rfl, uE⟩; refine hK _ _ (((((((Up.refl _).drew.trans uA).trans uB).alloc _).trans uC).trans uD).trans uE) ?_; clear hK K; go_simp
              iterate 3
                refine mixH_take rfl (by rfl) ?_; apply Exists.intro; refine ⟨fun w1 hS1 => ?_, ?_⟩
                · clear hS1
                  go_simp
                  try rfl
                go_simp
              refine mixH_take rfl (by rfl) ?_; apply Exists.intro; refine ⟨fun w1 hS1 => ?_, ?_⟩
              · have h7 := (X2.out.up hS1).cell (j := 7) rfl
                have l2 := (X2.out.up hS1).lt
                clear hS1; go_simp
                try rfl
              go_simp; refine mixH_take rfl (by rfl) ?_; apply Exists.intro; refine ⟨fun w1 hS1 => ?_, ?_⟩
              · clear hS1
                go_simp
                try rfl
              go_simp; refine mixH_go rfl (by rfl) (fun K hK => ?_); go_simp; refine (CK.out _ _ _ _ _ (U.out.trans (((((((Up.refl _).drew.trans uA).trans uB).alloc _).trans uC).trans uD).trans uE)) (X0.out.up (((((((Up.refl _).drew.trans uA).trans uB).alloc _).trans uC).trans uD).trans uE)) (X1.out.up (((((((Up.refl _).drew.trans uA).trans uB).alloc _).trans uC).trans uD).trans uE)) (X2.out.up (((((((Up.refl _).drew.trans uA).trans uB).alloc _).trans uC).trans uD).trans uE)) rfl).mono ?_; rintro x wF ⟨rfl, uF⟩; refine hK _ _ ((((((((Up.refl _).drew.trans uA).trans uB).alloc _).trans uC).trans uD).trans uE).trans uF) ?_
              clear hK K; go_simp
              iterate 2
                refine mixH_take rfl (by rfl) ?_; apply Exists.intro; refine ⟨fun w1 hS1 => ?_, ?_⟩
                · clear hS1
                  go_simp
                  try rfl
                go_simp
              iterate 3
                refine mixH_skip rfl (by rfl) ?_; go_simp
              iterate 2
                refine mixH_take rfl (by rfl) ?_; apply Exists.intro; refine ⟨fun w1 hS1 => ?_, ?_⟩
                · clear hS1
                  go_simp
                  try rfl
                go_simp
              refine mixH_nil ?_
              have UE := Lib.hid (U.out.trans ((((((((Up.refl _).drew.trans uA).trans uB).alloc _).trans uC).trans uD).trans uE).trans uF))
              go_wp2; go_ret
              exact ⟨rfl, UE.out⟩
            · refine region_mixH (fun w' => Up W w') [(0, true), (1, true), (2, true), (3, true), (4, false), (5, true), (6, true), (7, true), (8, false), (9, true), (10, true), (11, true), (12, true), (13, false), (14, true), (15, true), (16, true), (17, true), (18, true), (19, true), (21, true), (22, true), (20, false), (23, false), (24, false), (25, false), (26, true), (27, true), (28, true), (29, true), (30, true), (31, true), (32, false), (33, true), (34, true), (35, true), (36, true), (37, true), (38, false), (39, true), (40, true), (41, true), (42, true), (43, false), (44, true), (45, true)] (by kernel_rfl) (by kernel_rfl) (Up.refl _).drew ?_
              refine mixH_take rfl (by rfl) ?_; apply Exists.intro; refine ⟨fun w1 hS1 => ?_, ?_⟩
              · have c0 := (X1.out.up hS1).cell (j := 0) rfl
                have l1 := (X1.out.up hS1).lt
                clear hS1; go_simp
                try rfl
              go_simp; refine mixH_take rfl (by rfl) ?_; apply Exists.intro; refine ⟨fun w1 hS1 => ?_, ?_⟩
              · clear hS1
                go_simp
                try rfl
              go_simp; refine mixH_take rfl (by rfl) ?_; apply Exists.intro; refine ⟨fun w1 hS1 => ?_, ?_⟩
              · obtain ⟨m0, m1, m2⟩ := And.intro ((X0.out.up hS1).cell (j := 0) rfl) (And.intro ((X0.out.up hS1).cell (j := 1) rfl) ((X0.out.up hS1).cell (j := 2) rfl))
                have l0 := (X0.out.up hS1).lt
                clear hS1; go_simp
                try rfl
              go_simp; refine mixH_take rfl (by rfl) ?_; apply Exists.intro; refine ⟨fun w1 hS1 => ?_, ?_⟩
              · clear hS1
                go_simp
                try rfl
              go_simp; refine mixH_go rfl (by rfl) (fun K hK => ?_); go_simp; refine (CW.out _).mono ?_; rintro x w2 ⟨rfl, rfl⟩; refine hK _ _ (Up.refl _).drew ?_; clear hK K; go_simp
              iterate 2
                refine mixH_take rfl (by rfl) ?_; apply Exists.intro; refine ⟨fun w1 hS1 => ?_, ?_⟩
                · clear hS1
                  go_simp
                  try rfl
                go_simp
              refine mixH_take rfl (by rfl) ?_; apply Exists.intro; refine ⟨fun w1 hS1 => ?_, ?_⟩
              · have h0 := (X2.out.up hS1).cell (j := 0) rfl
                have h1 := (X2.out.up hS1).cell (j := 1) rfl
                have h2 := (X2.out.up hS1).cell (j := 2) rfl
                have l2 := (X2.out.up hS1).lt
                clear hS1; go_simp
                try rfl
              go_simp; refine mixH_go rfl (by rfl) (fun K hK => ?_); go_simp; refine (CS.out _).mono ?_; rintro x wA ⟨rfl, uA⟩; refine hK _ _ ((Up.refl _).drew.trans uA) ?_; clear hK K; go_simp
              iterate 3
                refine mixH_take rfl (by rfl) ?_; apply Exists.intro; refine ⟨fun w1 hS1 => ?_, ?_⟩
                · clear hS1
                  go_simp
                  try rfl
                go_simp
              refine mixH_take rfl (by rfl) ?_; apply Exists.intro; refine ⟨fun w1 hS1 => ?_, ?_⟩
              · have h3 := (X2.out.up hS1).cell (j := 3) rfl
                have l2 := (X2.out.up hS1).lt
                clear hS1; go_simp
                try rfl
              go_simp; refine mixH_go rfl (by rfl) (fun K hK => ?_); go_simp; refine (CV.out _).mono ?_; rintro x w2 ⟨rfl, rfl⟩; refine hK _ _ ((Up.refl _).drew.trans uA) ?_; clear hK K; go_simp
              iterate 2
                refine mixH_take rfl (by rfl) ?_; apply Exists.intro; refine ⟨fun w1 hS1 => ?_, ?_⟩
                · clear hS1
                  go_simp
                  try rfl
                go_simp
              refine mixH_take rfl (by rfl) ?_; apply Exists.intro; refine ⟨fun w1 hS1 => ?_, ?_⟩
              · obtain ⟨m0, m1, m2⟩ := And.intro ((X0.out.up hS1).cell (j := 0) rfl) (And.intro ((X0.out.up hS1).cell (j := 1) rfl) ((X0.out.up hS1).cell (j := 2) rfl))
                have l0 := (X0.out.up hS1).lt
                clear hS1; go_simp
                try rfl
              go_simp; refine mixH_take rfl (by rfl) ?_; apply Exists.intro; refine ⟨fun w1 hS1 => ?_, ?_⟩
              · have c0 := (X1.out.up hS1).cell (j := 0) rfl
                have l1 := (X1.out.up hS1).lt
                clear hS1; go_simp
                try rfl
              go_simp; refine mixH_take rfl (by rfl) ?_; apply Exists.intro; refine ⟨fun w1 hS1 => ?_, ?_⟩
              · clear hS1
                go_simp
                try rfl
              go_simp; refine mixH_take rfl (by rfl) ?_; apply Exists.intro; refine ⟨fun w1 hS1 => ?_, ?_⟩
              · have h4 := (X2.out.up hS1).cell (j := 4) rfl
                have l2 := (X2.out.up hS1).lt
                clear hS1; go_simp
                try rfl
              go_simp; refine mixH_take rfl (by rfl) ?_; apply Exists.intro; refine ⟨fun w1 hS1 => ?_, ?_⟩
              · clear hS1
                go_simp
                try rfl
              go_simp; refine mixH_take rfl (by rfl) ?_; apply Exists.intro; refine ⟨fun w1 hS1 => ?_, ?_⟩
              · have h5 := (X2.out.up hS1).cell (j := 5) rfl
                have l2 := (X2.out.up hS1).lt
                clear hS1; go_simp
                try rfl
              go_simp; refine mixH_go rfl (by rfl) (fun K hK => ?_); go_simp; refine (CO.out _ (U.out.trans ((Up.refl _).drew.trans uA))).mono ?_; rintro x wB ⟨gB, rfl, eB, uB⟩; refine hK _ _ (((Up.refl _).drew.trans uA).trans uB) ?_; clear hK K; go_simp; refine mixH_go rfl (by rfl) (fun K hK => ?_); go_simp; refine hK _ _ ((((Up.refl _).drew.trans uA).trans uB).alloc _) ?_; clear hK K; go_simp; refine mixH_go rfl (by rfl) (fun K hK => ?_); go_simp; refine (CC.out _ _ _ eB (U.out.trans (((Up.refl _).drew.trans uA).trans uB))).mono ?_; rintro x wC ⟨AC, cC, rfl, -, -, eC, -, uC⟩; refine hK _ _ (((((Up.refl _).drew.trans uA).trans uB).alloc _).trans uC) ?_
              clear hK K; go_simp; refine mixH_go rfl (by rfl) (fun K hK => ?_); go_simp; refine (CI.out _ _ _ eC).mono ?_; rintro x wD ⟨rfl, uD⟩; refine hK _ _ ((((((Up.refl _).drew.trans uA).trans uB).alloc _).trans uC).trans uD) ?_; clear hK K; go_simp
              iterate 2
                refine mixH_take rfl (by rfl) ?_; apply Exists.intro; refine ⟨fun w1 hS1 => ?_, ?_⟩
                · clear hS1
                  go_simp
                  try rfl
                go_simp
              refine mixH_take rfl (by rfl) ?_; apply Exists.intro; refine ⟨fun w1 hS1 => ?_, ?_⟩
              · obtain ⟨m0, m1, m2⟩ := And.intro ((X0.out.up hS1).cell (j := 0) rfl) (And.intro ((X0.out.up hS1).cell (j := 1) rfl) ((X0.out.up hS1).cell (j := 2) rfl))
                have l0 := (X0.out.up hS1).lt
                clear hS1; go_simp
                try rfl
              go_simp; refine mixH_take rfl (by rfl) ?_; apply Exists.intro; refine ⟨fun w1 hS1 => ?_, ?_⟩
              · have c0 := (X1.out.up hS1).cell (j := 0) rfl
                have l1 := (X1.out.up hS1).lt
                clear hS1; go_simp
                try rfl
              go_simp; refine mixH_take rfl (by rfl) ?_; apply Exists.intro; refine ⟨fun w1 hS1 => ?_, ?_⟩
              · clear hS1
                go_simp
                try rfl
              go_simp; refine mixH_take rfl (by rfl) ?_; apply Exists.intro; refine ⟨fun w1 hS1 => ?_, ?_⟩
              · have h6 := (X2.out.up hS1).cell (j := 6) rfl
                have l2 := (X2.out.up hS1).lt
                clear hS1; go_simp
                try rfl
              go_simp; refine mixH_go rfl (by rfl) (fun K hK => ?_); go_simp; refine (CJ.out _ (U.out.trans ((((((Up.refl _).drew.trans uA).trans uB).alloc _).trans uC).trans uD))).mono ?_; rintro x wE ⟨rfl, uE⟩; refine hK _ _ (((((((Up.refl _).drew.trans uA).trans uB).alloc _).trans uC).trans uD).trans uE) ?_; clear hK K; go_simp
              iterate 3
                refine mixH_take rfl (by rfl) ?_; apply Exists.intro; refine ⟨fun w1 hS1 => ?_, ?_⟩
                · clear hS1
                  go_simp
                  try rfl
                go_simp
              refine mixH_take rfl (by rfl) ?_; apply Exists.intro; refine ⟨fun w1 hS1 => ?_, ?_⟩
              · have h7 := (X2.out.up hS1).cell (j := 7) rfl
                have l2 := (X2.out.up hS1).lt
                clear hS1; go_simp
                try rfl
              go_simp; refine mixH_take rfl (by rfl) ?_; apply Exists.intro; refine ⟨fun w1 hS1 => ?_, ?_⟩
              · clear hS1
                go_simp
                try rfl
              go_simp; refine mixH_go rfl (by rfl) (fun K hK => ?_); go_simp; refine (CK.out _ _ _ _ _ (U.out.trans (((((((Up.refl _).drew.trans uA).trans uB).alloc _).trans uC).trans uD).trans uE)) (X0.out.up (((((((Up.refl _).drew.trans uA).trans uB).alloc _).trans uC).trans uD).trans uE)) (X1.out.up (((((((Up.refl _).drew.trans uA).trans uB).alloc _).trans uC).trans uD).trans uE)) (X2.out.up (((((((Up.refl _).drew.trans uA).trans uB).alloc _).trans uC).trans uD).trans uE)) rfl).mono ?_; rintro x wF ⟨rfl, uF⟩; refine hK _ _ ((((((((Up.refl _).drew.trans uA).trans uB).alloc _).trans uC).trans uD).trans uE).trans uF) ?_
              clear hK K; go_simp
              iterate 2
                refine mixH_take rfl (by rfl) ?_; apply Exists.intro; refine ⟨fun w1 hS1 => ?_, ?_⟩
                · clear hS1
                  go_simp
                  try rfl
                go_simp
              refine mixH_take rfl (by rfl) ?_; apply Exists.intro; refine ⟨fun w1 hS1 => ?_, ?_⟩
              · obtain ⟨m0, m1, m2⟩ := And.intro ((X0.out.up hS1).cell (j := 0) rfl) (And.intro ((X0.out.up hS1).cell (j := 1) rfl) ((X0.out.up hS1).cell (j := 2) rfl))
                have l0 := (X0.out.up hS1).lt
                clear hS1; go_simp
                try rfl
              go_simp; refine mixH_take rfl (by rfl) ?_; apply Exists.intro; refine ⟨fun w1 hS1 => ?_, ?_⟩
              · have h0 := (X2.out.up hS1).cell (j := 0) rfl
                have h1 := (X2.out.up hS1).cell (j := 1) rfl
                have h2 := (X2.out.up hS1).cell (j := 2) rfl
                have h3 := (X2.out.up hS1).cell (j := 3) rfl
                have h4 := (X2.out.up hS1).cell (j := 4) rfl
                have h5 := (X2.out.up hS1).cell (j := 5) rfl
                have h6 := (X2.out.up hS1).cell (j := 6) rfl
                have h7 := (X2.out.up hS1).cell (j := 7) rfl
                have l2 := (X2.out.up hS1).lt
                clear hS1; go_simp
                try rfl
              go_simp; refine mixH_go rfl (by rfl) (fun K hK => ?_); go_simp; refine (CX.out _ (U.out.trans ((((((((Up.refl _).drew.trans uA).trans uB).alloc _).trans uC).trans uD).trans uE).trans uF)) (HI.out rfl) (HA.out rfl)).mono ?_; rintro x wG ⟨rfl, uG⟩; refine hK _ _ (((((((((Up.refl _).drew.trans uA).trans uB).alloc _).trans uC).trans uD).trans uE).trans uF).trans uG) ?_; clear hK K; go_simp
              iterate 2
                refine mixH_take rfl (by rfl) ?_; apply Exists.intro; refine ⟨fun w1 hS1 => ?_, ?_⟩
                · clear hS1
                  go_simp
                  try rfl
                go_simp
              refine mixH_nil ?_
              have UE := Lib.hid (U.out.trans (((((((((Up.refl _).drew.trans uA).trans uB).alloc _).trans uC).trans uD).trans uE).trans uF).trans uG))
              go_wp2; go_ret
              exact ⟨rfl, UE.out⟩
end Go.Proofs.YtlkmhmiamdbhcabGreat

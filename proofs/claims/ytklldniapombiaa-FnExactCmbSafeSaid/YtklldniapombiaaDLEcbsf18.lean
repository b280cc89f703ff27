/-
  What impl's fits returns, in one sentence: whether a host with these records is valid; for every host that lies in memory.
-/
import Derived.Test.YtklldniapombiaaDLEcbsf09
import Derived.Test.YtklldniapombiaaDLEcbsf14
import Derived.Test.YtklldniapombiaaDLEcbsf17
namespace Go.Proofs.Ytklldniapombiaa
set_option maxRecDepth 100000
open Go.RowKit
set_option maxHeartbeats 40000000 in
theorem cbFits_any (mp : Option Nat) (many : Nat) (til comp : Int) (h : Ch) (Aw : Option Addr) (nw cw : Nat) (Ai : Option Addr) (ni ci : Nat) (Al : Option Addr) (nl cl : Nat) (log : List Rec) (w : World) (ht : 0 ≤ til ∧ til ≤ 99) (hw : Evs w Aw nw h.wait) (hi : Nms w Ai ni h.ins) (hl : Recs w Al nl log) (hn : nw ≤ 1048576 ∧ ni ≤ 1048576 ∧ nl ≤ 1048576) :
    Calls Try.prog 153 #[.agg #[.int .i64 h.now.s, .int .i64 h.now.sq, .int .i64 h.now.ct, .slice Aw nw cw, .slice Ai ni ci], .agg #[.map mp, .int .i64 (many : Int), .int .i64 til], .int .i64 comp, .slice Al nl cl] w fun x w' => x = .returned (.bool (chB many til comp h log)) ∧ Up w w' := by
  obtain ⟨h1, h2, h3⟩ := hn
  have hL : (log.map (·.ev) ++ h.wait).length = nl + nw := by rw [List.length_append, List.length_map, hl.1, hw.1]
  have CS := Lib.hid (fun W => implCst_any h.now W)
  have CB := Lib.hid (fun W (u : Up w W) hM hC => everyB_any Ai ni ci h.ins mp many til comp (w.heap.size + 1) (w.heap.size + 1 + 1) W (by omega) (hi.up u) ht hM hC)
  have CO := Lib.hid (fun W (u : Up w W) => eventsOf_any Al nl cl log W h3 (hl.up u))
  have CC := Lib.hid (fun W gA (u : Up w W) (hA : Evs W (some ⟨gA, 0, none⟩) nl (log.map (·.ev))) => concat2 (some ⟨gA, 0, none⟩) nl nl (log.map (·.ev)) Aw nw cw h.wait W hA (hw.up u) (by omega))
  unfold NewSl at CC; rw [hL] at CC
  have CR := Lib.hid (fun W A c (hA : Evs W A (nl + nw) (log.map (·.ev) ++ h.wait)) => implRise_any A (nl + nw) c (log.map (·.ev) ++ h.wait) W (by omega) hA)
  have CP := Lib.hid (fun W (u : Up w W) hM hC => everyP_any Aw nw cw h.wait mp many til comp (w.heap.size + 1) (w.heap.size + 1 + 1) W (by omega) (hw.up u) ht hM hC)
  have CL := Lib.hid (fun W (u : Up w W) hM hC => everyL_any Al nl cl log mp many til comp (w.heap.size + 1) (w.heap.size + 1 + 1) W (by omega) (hl.up u) ht hM hC)
  unfold Cst.v at CS
  have hlen := hi.1
  unfold chB; rw [hlen]
  generalize cstB h.now = c1 at CS ⊢
  have e2a : ((ni : Int) == (many : Int)) = decide (ni = many) := by
    by_cases e : ni = many
    · simp [e]
    · have e' : ¬ (ni : Int) = (many : Int) := by omega
      simp [e, e']
  have e2b : decide ((ni : Int) = (many : Int)) = decide (ni = many) := by
    by_cases e : ni = many
    · simp [e]
    · have e' : ¬ (ni : Int) = (many : Int) := by omega
      simp [e, e']
  generalize decide (ni = many) = c2 at e2a e2b ⊢
  generalize h.ins.all (bndB til) = c3 at CB ⊢
  generalize riseB (log.map (·.ev) ++ h.wait) = c4 at CR ⊢
  generalize h.wait.all (pndB many til comp) = c5 at CP ⊢
  generalize log.all (rcdB many comp) = c6 at CL ⊢
  have X0 := Lib.hid (((Blk.new w #[.int .i64 h.now.s, .int .i64 h.now.sq, .int .i64 h.now.ct, .slice Aw nw cw, .slice Ai ni ci] 86).alloc (.cells #[.map mp, .int .i64 (many : Int), .int .i64 til] 109)).alloc (.cells #[.int .i64 comp] 3))
  have X1 := Lib.hid ((Blk.new (w.alloc (.cells #[.int .i64 h.now.s, .int .i64 h.now.sq, .int .i64 h.now.ct, .slice Aw nw cw, .slice Ai ni ci] 86)) #[.map mp, .int .i64 (many : Int), .int .i64 til] 109).alloc (.cells #[.int .i64 comp] 3))
  have X2 := Lib.hid (Blk.new ((w.alloc (.cells #[.int .i64 h.now.s, .int .i64 h.now.sq, .int .i64 h.now.ct, .slice Aw nw cw, .slice Ai ni ci] 86)).alloc (.cells #[.map mp, .int .i64 (many : Int), .int .i64 til] 109)) #[.int .i64 comp] 3)
  simp only [World.size_alloc] at X1 X2
  have U := Lib.hid (((Up.refl w).alloc (.cells #[.int .i64 h.now.s, .int .i64 h.now.sq, .int .i64 h.now.ct, .slice Aw nw cw, .slice Ai ni ci] 86)).alloc (.cells #[.map mp, .int .i64 (many : Int), .int .i64 til] 109) |>.alloc (.cells #[.int .i64 comp] 3))
  clear hw hi hl hL hlen
  generalize h.now.s = z0 at *
  generalize h.now.sq = z1 at *
  generalize h.now.ct = z2 at *
  go_enter Try.func153, Try.ntmps153
  go_wp2_with fail
  generalize ((w.alloc (.cells #[.int .i64 z0, .int .i64 z1, .int .i64 z2, .slice Aw nw cw, .slice Ai ni ci] 86)).alloc (.cells #[.map mp, .int .i64 (many : Int), .int .i64 til] 109)).alloc (.cells #[.int .i64 comp] 3) = W at *
  cases c1
  · refine region_mixH (fun w' => Up W w') [(0, true), (1, true), (2, false), (3, true), (4, true), (5, true), (6, true), (7, true), (8, true), (9, true), (10, true), (11, true), (12, true), (13, true), (14, true), (15, true), (16, true), (17, true), (18, true), (19, true), (20, true), (21, true), (22, true), (23, true), (24, true), (25, true), (26, true), (27, true), (28, true), (29, true), (30, true), (31, true), (32, true), (33, true), (34, true), (35, true), (36, true), (37, true)] (by kernel_rfl) (by kernel_rfl) (Up.refl _).drew ?_
    refine mixH_take rfl (by rfl) ?_; apply Exists.intro; refine ⟨fun w1 hS1 => ?_, ?_⟩
    · clear hS1
      go_simp
      try rfl
    go_simp; refine mixH_take rfl (by rfl) ?_; apply Exists.intro; refine ⟨fun w1 hS1 => ?_, ?_⟩
    · have h0 := (X0.out.up hS1).cell (j := 0) rfl
      have h1 := (X0.out.up hS1).cell (j := 1) rfl
      have h2 := (X0.out.up hS1).cell (j := 2) rfl
      have l0 := (X0.out.up hS1).lt
      clear hS1; go_simp
      try rfl
    go_simp; refine mixH_go rfl (by rfl) (fun K hK => ?_); go_simp; refine (CS.out _).mono ?_; rintro x wA ⟨rfl, uA⟩; refine hK _ _ ((Up.refl _).drew.trans uA) ?_; clear hK K; go_simp; refine mixH_take rfl (by rfl) ?_; apply Exists.intro; refine ⟨fun w1 hS1 => ?_, ?_⟩
    · clear hS1
      go_simp
      try rfl
    go_simp
    iterate 6
      refine mixH_skip rfl (by rfl) ?_; go_simp
    iterate 2
      refine mixH_take rfl (by rfl) ?_; apply Exists.intro; refine ⟨fun w1 hS1 => ?_, ?_⟩
      · clear hS1
        go_simp
        try rfl
      go_simp
    iterate 4
      refine mixH_skip rfl (by rfl) ?_; go_simp
    iterate 2
      refine mixH_take rfl (by rfl) ?_; apply Exists.intro; refine ⟨fun w1 hS1 => ?_, ?_⟩
      · clear hS1
        go_simp
        try rfl
      go_simp
    iterate 7
      refine mixH_skip rfl (by rfl) ?_; go_simp
    iterate 2
      refine mixH_take rfl (by rfl) ?_; apply Exists.intro; refine ⟨fun w1 hS1 => ?_, ?_⟩
      · clear hS1
        go_simp
        try rfl
      go_simp
    iterate 4
      refine mixH_skip rfl (by rfl) ?_; go_simp
    iterate 2
      refine mixH_take rfl (by rfl) ?_; apply Exists.intro; refine ⟨fun w1 hS1 => ?_, ?_⟩
      · clear hS1
        go_simp
        try rfl
      go_simp
    iterate 3
      refine mixH_skip rfl (by rfl) ?_; go_simp
    iterate 2
      refine mixH_take rfl (by rfl) ?_; apply Exists.intro; refine ⟨fun w1 hS1 => ?_, ?_⟩
      · clear hS1
        go_simp
        try rfl
      go_simp
    refine mixH_nil ?_
    have UE := Lib.hid (U.out.trans ((Up.refl _).drew.trans uA))
    go_wp2; go_ret
    exact ⟨rfl, UE.out⟩
  · cases c2
    · refine region_mixH (fun w' => Up W w') [(0, true), (1, true), (2, false), (3, true), (4, true), (5, true), (6, true), (7, true), (8, true), (9, true), (10, true), (11, true), (12, true), (13, true), (14, true), (15, true), (16, true), (17, true), (18, true), (19, true), (20, true), (21, true), (22, true), (23, true), (24, true), (25, true), (26, true), (27, true), (28, true), (29, true), (30, true), (31, true), (32, true), (33, true), (34, true), (35, true), (36, true), (37, true)] (by kernel_rfl) (by kernel_rfl) (Up.refl _).drew ?_
      refine mixH_take rfl (by rfl) ?_; apply Exists.intro; refine ⟨fun w1 hS1 => ?_, ?_⟩
      · clear hS1
        go_simp
        try rfl
      go_simp; refine mixH_take rfl (by rfl) ?_; apply Exists.intro; refine ⟨fun w1 hS1 => ?_, ?_⟩
      · have h0 := (X0.out.up hS1).cell (j := 0) rfl
        have h1 := (X0.out.up hS1).cell (j := 1) rfl
        have h2 := (X0.out.up hS1).cell (j := 2) rfl
        have l0 := (X0.out.up hS1).lt
        clear hS1; go_simp
        try rfl
      go_simp; refine mixH_go rfl (by rfl) (fun K hK => ?_); go_simp; refine (CS.out _).mono ?_; rintro x wA ⟨rfl, uA⟩; refine hK _ _ ((Up.refl _).drew.trans uA) ?_; clear hK K; go_simp
      iterate 2
        refine mixH_take rfl (by rfl) ?_; apply Exists.intro; refine ⟨fun w1 hS1 => ?_, ?_⟩
        · clear hS1
          go_simp
          try rfl
        go_simp
      refine mixH_take rfl (by rfl) ?_; apply Exists.intro; refine ⟨fun w1 hS1 => ?_, ?_⟩
      · have h4 := (X0.out.up hS1).cell (j := 4) rfl
        have l0 := (X0.out.up hS1).lt
        clear hS1; go_simp
        try rfl
      go_simp
      iterate 2
        refine mixH_take rfl (by rfl) ?_; apply Exists.intro; refine ⟨fun w1 hS1 => ?_, ?_⟩
        · clear hS1
          go_simp
          try rfl
        go_simp
      refine mixH_take rfl (by rfl) ?_; apply Exists.intro; refine ⟨fun w1 hS1 => ?_, ?_⟩
      · obtain ⟨m0, m1, m2⟩ := And.intro ((X1.out.up hS1).cell (j := 0) rfl) (And.intro ((X1.out.up hS1).cell (j := 1) rfl) ((X1.out.up hS1).cell (j := 2) rfl))
        have l1 := (X1.out.up hS1).lt
        clear hS1; go_simp
        try rfl
      go_simp
      iterate 3
        refine mixH_take rfl (by rfl) ?_; apply Exists.intro; refine ⟨fun w1 hS1 => ?_, ?_⟩
        · clear hS1
          go_simp
          try rfl
        go_simp
      iterate 4
        refine mixH_skip rfl (by rfl) ?_; go_simp
      iterate 2
        refine mixH_take rfl (by rfl) ?_; apply Exists.intro; refine ⟨fun w1 hS1 => ?_, ?_⟩
        · clear hS1
          go_simp
          try rfl
        go_simp
      iterate 7
        refine mixH_skip rfl (by rfl) ?_; go_simp
      iterate 2
        refine mixH_take rfl (by rfl) ?_; apply Exists.intro; refine ⟨fun w1 hS1 => ?_, ?_⟩
        · clear hS1
          go_simp
          try rfl
        go_simp
      iterate 4
        refine mixH_skip rfl (by rfl) ?_; go_simp
      iterate 2
        refine mixH_take rfl (by rfl) ?_; apply Exists.intro; refine ⟨fun w1 hS1 => ?_, ?_⟩
        · clear hS1
          go_simp
          try rfl
        go_simp
      iterate 3
        refine mixH_skip rfl (by rfl) ?_; go_simp
      iterate 2
        refine mixH_take rfl (by rfl) ?_; apply Exists.intro; refine ⟨fun w1 hS1 => ?_, ?_⟩
        · clear hS1
          go_simp
          try rfl
        go_simp
      refine mixH_nil ?_
      have UE := Lib.hid (U.out.trans ((Up.refl _).drew.trans uA))
      go_wp2; go_ret
      exact ⟨rfl, UE.out⟩
    · cases c3
      · refine region_mixH (fun w' => Up W w') [(0, true), (1, true), (2, false), (3, true), (4, true), (5, true), (6, true), (7, true), (8, true), (9, true), (10, true), (11, true), (12, true), (13, true), (14, true), (15, false), (16, true), (17, true), (18, true), (19, true), (20, true), (21, true), (22, true), (23, true), (24, true), (25, true), (26, true), (27, true), (28, true), (29, true), (30, true), (31, true), (32, true), (33, true), (34, true), (35, true), (36, true), (37, true)] (by kernel_rfl) (by kernel_rfl) (Up.refl _).drew ?_
        refine mixH_take rfl (by rfl) ?_; apply Exists.intro; refine ⟨fun w1 hS1 => ?_, ?_⟩
        · clear hS1
          go_simp
          try rfl
        go_simp; refine mixH_take rfl (by rfl) ?_; apply Exists.intro; refine ⟨fun w1 hS1 => ?_, ?_⟩
        · have h0 := (X0.out.up hS1).cell (j := 0) rfl
          have h1 := (X0.out.up hS1).cell (j := 1) rfl
          have h2 := (X0.out.up hS1).cell (j := 2) rfl
          have l0 := (X0.out.up hS1).lt
          clear hS1; go_simp
          try rfl
        go_simp; refine mixH_go rfl (by rfl) (fun K hK => ?_); go_simp; refine (CS.out _).mono ?_; rintro x wA ⟨rfl, uA⟩; refine hK _ _ ((Up.refl _).drew.trans uA) ?_; clear hK K; go_simp
        iterate 2
          refine mixH_take rfl (by rfl) ?_; apply Exists.intro; refine ⟨fun w1 hS1 => ?_, ?_⟩
          · clear hS1
            go_simp
            try rfl
          go_simp
        refine mixH_take rfl (by rfl) ?_; apply Exists.intro; refine ⟨fun w1 hS1 => ?_, ?_⟩
        · have h4 := (X0.out.up hS1).cell (j := 4) rfl
          have l0 := (X0.out.up hS1).lt
          clear hS1; go_simp
          try rfl
        go_simp
        iterate 2
          refine mixH_take rfl (by rfl) ?_; apply Exists.intro; refine ⟨fun w1 hS1 => ?_, ?_⟩
          · clear hS1
            go_simp
            try rfl
          go_simp
        refine mixH_take rfl (by rfl) ?_; apply Exists.intro; refine ⟨fun w1 hS1 => ?_, ?_⟩
        · obtain ⟨m0, m1, m2⟩ := And.intro ((X1.out.up hS1).cell (j := 0) rfl) (And.intro ((X1.out.up hS1).cell (j := 1) rfl) ((X1.out.up hS1).cell (j := 2) rfl))
          have l1 := (X1.out.up hS1).lt
          clear hS1; go_simp
          try rfl
        go_simp
        iterate 4
          refine mixH_take rfl (by rfl) ?_; apply Exists.intro; refine ⟨fun w1 hS1 => ?_, ?_⟩
          · clear hS1
            go_simp
            try rfl
          go_simp
        refine mixH_take rfl (by rfl) ?_; apply Exists.intro; refine ⟨fun w1 hS1 => ?_, ?_⟩
        · have h4 := (X0.out.up hS1).cell (j := 4) rfl
          have l0 := (X0.out.up hS1).lt
          clear hS1; go_simp
          try rfl
        go_simp; refine mixH_take rfl (by rfl) ?_; apply Exists.intro; refine ⟨fun w1 hS1 => ?_, ?_⟩
        · clear hS1
          go_simp
          try rfl
        go_simp; refine mixH_go rfl (by rfl) (fun K hK => ?_); go_simp; refine (CB.out _ (U.out.trans ((Up.refl _).drew.trans uA)) (X1.out.up ((Up.refl _).drew.trans uA)) (X2.out.up ((Up.refl _).drew.trans uA))).mono ?_; rintro x wB ⟨rfl, uB⟩; refine hK _ _ (((Up.refl _).drew.trans uA).trans uB) ?_; clear hK K; go_simp
        iterate 2
          refine mixH_take rfl (by rfl) ?_; apply Exists.intro; refine ⟨fun w1 hS1 => ?_, ?_⟩
          · clear hS1
            go_simp
            try rfl
          go_simp
        iterate 7
          refine mixH_skip rfl (by rfl) ?_; go_simp
        iterate 2
          refine mixH_take rfl (by rfl) ?_; apply Exists.intro; refine ⟨fun w1 hS1 => ?_, ?_⟩
          · clear hS1
            go_simp
            try rfl
          go_simp
        iterate 4
          refine mixH_skip rfl (by rfl) ?_; go_simp
        iterate 2
          refine mixH_take rfl (by rfl) ?_; apply Exists.intro; refine ⟨fun w1 hS1 => ?_, ?_⟩
          · clear hS1
            go_simp
            try rfl
          go_simp
        iterate 3
          refine mixH_skip rfl (by rfl) ?_; go_simp
        iterate 2
          refine mixH_take rfl (by rfl) ?_; apply Exists.intro; refine ⟨fun w1 hS1 => ?_, ?_⟩
          · clear hS1
            go_simp
            try rfl
          go_simp
        refine mixH_nil ?_
        have UE := Lib.hid (U.out.trans (((Up.refl _).drew.trans uA).trans uB))
        go_wp2; go_ret
        exact ⟨rfl, UE.out⟩
      · cases c4
        · refine region_mixH (fun w' => Up W w') [(0, true), (1, true), (2, false), (3, true), (4, true), (5, true), (6, true), (7, true), (8, true), (9, true), (10, true), (11, true), (12, true), (13, true), (14, true), (15, false), (16, true), (17, true), (18, true), (20, true), (21, true), (19, false), (22, false), (23, false), (24, false), (25, true), (26, true), (27, true), (28, true), (29, true), (30, true), (31, true), (32, true), (33, true), (34, true), (35, true), (36, true), (37, true)] (by kernel_rfl) (by kernel_rfl) (Up.refl _).drew ?_
          refine mixH_take rfl (by rfl) ?_; apply Exists.intro; refine ⟨fun w1 hS1 => ?_, ?_⟩
          · clear hS1
            go_simp
            try rfl
          go_simp; refine mixH_take rfl (by rfl) ?_; apply Exists.intro; refine ⟨fun w1 hS1 => ?_, ?_⟩
          · have h0 := (X0.out.up hS1).cell (j := 0) rfl
            have h1 := (X0.out.up hS1).cell (j := 1) rfl
            have h2 := (X0.out.up hS1).cell (j := 2) rfl
            have l0 := (X0.out.up hS1).lt
            clear hS1; go_simp
            try rfl
          go_simp; refine mixH_go rfl (by rfl) (fun K hK => ?_); go_simp; refine (CS.out _).mono ?_; rintro x wA ⟨rfl, uA⟩; refine hK _ _ ((Up.refl _).drew.trans uA) ?_; clear hK K; go_simp
          iterate 2
            refine mixH_take rfl (by rfl) ?_; apply Exists.intro; refine ⟨fun w1 hS1 => ?_, ?_⟩
            · clear hS1
              go_simp
              try rfl
            go_simp
          refine mixH_take rfl (by rfl) ?_; apply Exists.intro; refine ⟨fun w1 hS1 => ?_, ?_⟩
          · have h4 := (X0.out.up hS1).cell (j := 4) rfl
            have l0 := (X0.out.up hS1).lt
            clear hS1; go_simp
            try rfl
          go_simp
          iterate 2
            refine mixH_take rfl (by rfl) ?_; apply Exists.intro; refine ⟨fun w1 hS1 => ?_, ?_⟩
            · clear hS1
              go_simp
              try rfl
            go_simp
          refine mixH_take rfl (by rfl) ?_; apply Exists.intro; refine ⟨fun w1 hS1 => ?_, ?_⟩
          · obtain ⟨m0, m1, m2⟩ := And.intro ((X1.out.up hS1).cell (j := 0) rfl) (And.intro ((X1.out.up hS1).cell (j := 1) rfl) ((X1.out.up hS1).cell (j := 2) rfl))
            have l1 := (X1.out.up hS1).lt
            clear hS1; go_simp
            try rfl
          go_simp
          iterate 4
            refine mixH_take rfl (by rfl) ?_; apply Exists.intro; refine ⟨fun w1 hS1 => ?_, ?_⟩
            · clear hS1
              go_simp
              try rfl
            go_simp
          refine mixH_take rfl (by rfl) ?_; apply Exists.intro; refine ⟨fun w1 hS1 => ?_, ?_⟩
          · have h4 := (X0.out.up hS1).cell (j := 4) rfl
            have l0 := (X0.out.up hS1).lt
            clear hS1; go_simp
            try rfl
          go_simp; refine mixH_take rfl (by rfl) ?_; apply Exists.intro; refine ⟨fun w1 hS1 => ?_, ?_⟩
          · clear hS1
            go_simp
            try rfl
          go_simp; refine mixH_go rfl (by rfl) (fun K hK => ?_); go_simp; refine (CB.out _ (U.out.trans ((Up.refl _).drew.trans uA)) (X1.out.up ((Up.refl _).drew.trans uA)) (X2.out.up ((Up.refl _).drew.trans uA))).mono ?_; rintro x wB ⟨rfl, uB⟩; refine hK _ _ (((Up.refl _).drew.trans uA).trans uB) ?_; clear hK K; go_simp
          iterate 4
            refine mixH_take rfl (by rfl) ?_; apply Exists.intro; refine ⟨fun w1 hS1 => ?_, ?_⟩
            · clear hS1
              go_simp
              try rfl
            go_simp
          refine mixH_take rfl (by rfl) ?_; apply Exists.intro; refine ⟨fun w1 hS1 => ?_, ?_⟩
          · have h3 := (X0.out.up hS1).cell (j := 3) rfl
            have l0 := (X0.out.up hS1).lt
            clear hS1; go_simp
            try rfl
          go_simp; refine mixH_go rfl (by rfl) (fun K hK => ?_); go_simp; refine (CO.out _ (U.out.trans (((Up.refl _).drew.trans uA).trans uB))).mono ?_; rintro x wC ⟨gC, rfl, _, eC, uC⟩; refine hK _ _ ((((Up.refl _).drew.trans uA).trans uB).trans uC) ?_; clear hK K; go_simp; refine mixH_go rfl (by rfl) (fun K hK => ?_); go_simp; refine hK _ _ (((((Up.refl _).drew.trans uA).trans uB).trans uC).alloc _) ?_; clear hK K; go_simp; refine mixH_go rfl (by rfl) (fun K hK => ?_); go_simp; refine (CC.out _ gC (U.out.trans ((((Up.refl _).drew.trans uA).trans uB).trans uC)) eC).mono ?_; rintro x wD ⟨AD, cD, rfl, -, -, eD, -, uD⟩
          refine hK _ _ ((((((Up.refl _).drew.trans uA).trans uB).trans uC).alloc _).trans uD) ?_; clear hK K; go_simp; refine mixH_go rfl (by rfl) (fun K hK => ?_); go_simp; refine (CR.out _ _ cD eD).mono ?_; rintro x wE ⟨rfl, uE⟩; refine hK _ _ (((((((Up.refl _).drew.trans uA).trans uB).trans uC).alloc _).trans uD).trans uE) ?_; clear hK K; go_simp
          iterate 2
            refine mixH_take rfl (by rfl) ?_; apply Exists.intro; refine ⟨fun w1 hS1 => ?_, ?_⟩
            · clear hS1
              go_simp
              try rfl
            go_simp
          iterate 4
            refine mixH_skip rfl (by rfl) ?_; go_simp
          iterate 2
            refine mixH_take rfl (by rfl) ?_; apply Exists.intro; refine ⟨fun w1 hS1 => ?_, ?_⟩
            · clear hS1
              go_simp
              try rfl
            go_simp
          iterate 3
            refine mixH_skip rfl (by rfl) ?_; go_simp
          iterate 2
            refine mixH_take rfl (by rfl) ?_; apply Exists.intro; refine ⟨fun w1 hS1 => ?_, ?_⟩
            · clear hS1
              go_simp
              try rfl
            go_simp
          refine mixH_nil ?_
          have UE := Lib.hid (U.out.trans (((((((Up.refl _).drew.trans uA).trans uB).trans uC).alloc _).trans uD).trans uE))
          go_wp2; go_ret
          exact ⟨rfl, UE.out⟩
        · cases c5
          · refine region_mixH (fun w' => Up W w') [(0, true), (1, true), (2, false), (3, true), (4, true), (5, true), (6, true), (7, true), (8, true), (9, true), (10, true), (11, true), (12, true), (13, true), (14, true), (15, false), (16, true), (17, true), (18, true), (20, true), (21, true), (19, false), (22, false), (23, false), (24, false), (25, true), (26, true), (27, true), (28, true), (29, true), (30, false), (31, true), (32, true), (33, true), (34, true), (35, true), (36, true), (37, true)] (by kernel_rfl) (by kernel_rfl) (Up.refl _).drew ?_
            refine mixH_take rfl (by rfl) ?_; apply Exists.intro; refine ⟨fun w1 hS1 => ?_, ?_⟩
            · clear hS1
              go_simp
              try rfl
            go_simp; refine mixH_take rfl (by rfl) ?_; apply Exists.intro; refine ⟨fun w1 hS1 => ?_, ?_⟩
            · have h0 := (X0.out.up hS1).cell (j := 0) rfl
              have h1 := (X0.out.up hS1).cell (j := 1) rfl
              have h2 := (X0.out.up hS1).cell (j := 2) rfl
              have l0 := (X0.out.up hS1).lt
              clear hS1; go_simp
              try rfl
            go_simp; refine mixH_go rfl (by rfl) (fun K hK => ?_); go_simp; refine (CS.out _).mono ?_; rintro x wA ⟨rfl, uA⟩; refine hK _ _ ((Up.refl _).drew.trans uA) ?_; clear hK K; go_simp
            iterate 2
              refine mixH_take rfl (by rfl) ?_; apply Exists.intro; refine ⟨fun w1 hS1 => ?_, ?_⟩
              · clear hS1
                go_simp
                try rfl
              go_simp
            refine mixH_take rfl (by rfl) ?_; apply Exists.intro; refine ⟨fun w1 hS1 => ?_, ?_⟩
            · have h4 := (X0.out.up hS1).cell (j := 4) rfl
              have l0 := (X0.out.up hS1).lt
              clear hS1; go_simp
              try rfl
            go_simp
            iterate 2
              refine mixH_take rfl (by rfl) ?_; apply Exists.intro; refine ⟨fun w1 hS1 => ?_, ?_⟩
              · clear hS1
                go_simp
                try rfl
              go_simp
            refine mixH_take rfl (by rfl) ?_; apply Exists.intro; refine ⟨fun w1 hS1 => ?_, ?_⟩
            · obtain ⟨m0, m1, m2⟩ := And.intro ((X1.out.up hS1).cell (j := 0) rfl) (And.intro ((X1.out.up hS1).cell (j := 1) rfl) ((X1.out.up hS1).cell (j := 2) rfl))
              have l1 := (X1.out.up hS1).lt
              clear hS1; go_simp
              try rfl
            go_simp
            iterate 4
              refine mixH_take rfl (by rfl) ?_; apply Exists.intro; refine ⟨fun w1 hS1 => ?_, ?_⟩
              · clear hS1
                go_simp
                try rfl
              go_simp
            refine mixH_take rfl (by rfl) ?_; apply Exists.intro; refine ⟨fun w1 hS1 => ?_, ?_⟩
            · have h4 := (X0.out.up hS1).cell (j := 4) rfl
              have l0 := (X0.out.up hS1).lt
              clear hS1; go_simp
              try rfl
            go_simp; refine mixH_take rfl (by rfl) ?_; apply Exists.intro; refine ⟨fun w1 hS1 => ?_, ?_⟩
            · clear hS1
              go_simp
              try rfl
            go_simp; refine mixH_go rfl (by rfl) (fun K hK => ?_); go_simp; refine (CB.out _ (U.out.trans ((Up.refl _).drew.trans uA)) (X1.out.up ((Up.refl _).drew.trans uA)) (X2.out.up ((Up.refl _).drew.trans uA))).mono ?_; rintro x wB ⟨rfl, uB⟩; refine hK _ _ (((Up.refl _).drew.trans uA).trans uB) ?_; clear hK K; go_simp
            iterate 4
              refine mixH_take rfl (by rfl) ?_; apply Exists.intro; refine ⟨fun w1 hS1 => ?_, ?_⟩
              · clear hS1
                go_simp
                try rfl
              go_simp
            refine mixH_take rfl (by rfl) ?_; apply Exists.intro; refine ⟨fun w1 hS1 => ?_, ?_⟩
            · have h3 := (X0.out.up hS1).cell (j := 3) rfl
              have l0 := (X0.out.up hS1).lt
              clear hS1; go_simp
              try rfl
            go_simp; refine mixH_go rfl (by rfl) (fun K hK => ?_); go_simp; refine (CO.out _ (U.out.trans (((Up.refl _).drew.trans uA).trans uB))).mono ?_; rintro x wC ⟨gC, rfl, _, eC, uC⟩; refine hK _ _ ((((Up.refl _).drew.trans uA).trans uB).trans uC) ?_; clear hK K; go_simp; refine mixH_go rfl (by rfl) (fun K hK => ?_); go_simp; refine hK _ _ (((((Up.refl _).drew.trans uA).trans uB).trans uC).alloc _) ?_; clear hK K; go_simp; refine mixH_go rfl (by rfl) (fun K hK => ?_); go_simp; refine (CC.out _ gC (U.out.trans ((((Up.refl _).drew.trans uA).trans uB).trans uC)) eC).mono ?_; rintro x wD ⟨AD, cD, rfl, -, -, eD, -, uD⟩
            refine hK _ _ ((((((Up.refl _).drew.trans uA).trans uB).trans uC).alloc _).trans uD) ?_; clear hK K; go_simp; refine mixH_go rfl (by rfl) (fun K hK => ?_); go_simp; refine (CR.out _ _ cD eD).mono ?_; rintro x wE ⟨rfl, uE⟩; refine hK _ _ (((((((Up.refl _).drew.trans uA).trans uB).trans uC).alloc _).trans uD).trans uE) ?_; clear hK K; go_simp
            iterate 3
              refine mixH_take rfl (by rfl) ?_; apply Exists.intro; refine ⟨fun w1 hS1 => ?_, ?_⟩
              · clear hS1
                go_simp
                try rfl
              go_simp
            refine mixH_take rfl (by rfl) ?_; apply Exists.intro; refine ⟨fun w1 hS1 => ?_, ?_⟩
            · have h3 := (X0.out.up hS1).cell (j := 3) rfl
              have l0 := (X0.out.up hS1).lt
              clear hS1; go_simp
              try rfl
            go_simp; refine mixH_take rfl (by rfl) ?_; apply Exists.intro; refine ⟨fun w1 hS1 => ?_, ?_⟩
            · clear hS1
              go_simp
              try rfl
            go_simp; refine mixH_go rfl (by rfl) (fun K hK => ?_); go_simp; refine (CP.out _ (U.out.trans (((((((Up.refl _).drew.trans uA).trans uB).trans uC).alloc _).trans uD).trans uE)) (X1.out.up (((((((Up.refl _).drew.trans uA).trans uB).trans uC).alloc _).trans uD).trans uE)) (X2.out.up (((((((Up.refl _).drew.trans uA).trans uB).trans uC).alloc _).trans uD).trans uE))).mono ?_; rintro x wF ⟨rfl, uF⟩; refine hK _ _ ((((((((Up.refl _).drew.trans uA).trans uB).trans uC).alloc _).trans uD).trans uE).trans uF) ?_; clear hK K; go_simp
            iterate 2
              refine mixH_take rfl (by rfl) ?_; apply Exists.intro; refine ⟨fun w1 hS1 => ?_, ?_⟩
              · clear hS1
                go_simp
                try rfl
              go_simp
            iterate 3
              refine mixH_skip rfl (by rfl) ?_; go_simp
            iterate 2
              refine mixH_take rfl (by rfl) ?_; apply Exists.intro; refine ⟨fun w1 hS1 => ?_, ?_⟩
              · clear hS1
                go_simp
                try rfl
              go_simp
            refine mixH_nil ?_
            have UE := Lib.hid (U.out.trans ((((((((Up.refl _).drew.trans uA).trans uB).trans uC).alloc _).trans uD).trans uE).trans uF))
            go_wp2; go_ret
            exact ⟨rfl, UE.out⟩
          · refine region_mixH (fun w' => Up W w') [(0, true), (1, true), (2, false), (3, true), (4, true), (5, true), (6, true), (7, true), (8, true), (9, true), (10, true), (11, true), (12, true), (13, true), (14, true), (15, false), (16, true), (17, true), (18, true), (20, true), (21, true), (19, false), (22, false), (23, false), (24, false), (25, true), (26, true), (27, true), (28, true), (29, true), (30, false), (31, true), (32, true), (33, true), (34, true), (35, false), (36, true), (37, true)] (by kernel_rfl) (by kernel_rfl) (Up.refl _).drew ?_
            refine mixH_take rfl (by rfl) ?_; apply Exists.intro; refine ⟨fun w1 hS1 => ?_, ?_⟩
            · clear hS1
              go_simp
              try rfl
            go_simp; refine mixH_take rfl (by rfl) ?_; apply Exists.intro; refine ⟨fun w1 hS1 => ?_, ?_⟩
            · have h0 := (X0.out.up hS1).cell (j := 0) rfl
              have h1 := (X0.out.up hS1).cell (j := 1) rfl
              have h2 := (X0.out.up hS1).cell (j := 2) rfl
              have l0 := (X0.out.up hS1).lt
              clear hS1; go_simp
              try rfl
            go_simp; refine mixH_go rfl (by rfl) (fun K hK => ?_); go_simp; refine (CS.out _).mono ?_; rintro x wA ⟨rfl, uA⟩; refine hK _ _ ((Up.refl _).drew.trans uA) ?_; clear hK K; go_simp
            iterate 2
              refine mixH_take rfl (by rfl) ?_; apply Exists.intro; refine ⟨fun w1 hS1 => ?_, ?_⟩
              · clear hS1
                go_simp
                try rfl
              go_simp
            refine mixH_take rfl (by rfl) ?_; apply Exists.intro; refine ⟨fun w1 hS1 => ?_, ?_⟩
            · have h4 := (X0.out.up hS1).cell (j := 4) rfl
              have l0 := (X0.out.up hS1).lt
              clear hS1; go_simp
              try rfl
            go_simp
            iterate 2
              refine mixH_take rfl (by rfl) ?_; apply Exists.intro; refine ⟨fun w1 hS1 => ?_, ?_⟩
              · clear hS1
                go_simp
                try rfl
              go_simp
            refine mixH_take rfl (by rfl) ?_; apply Exists.intro; refine ⟨fun w1 hS1 => ?_, ?_⟩
            · obtain ⟨m0, m1, m2⟩ := And.intro ((X1.out.up hS1).cell (j := 0) rfl) (And.intro ((X1.out.up hS1).cell (j := 1) rfl) ((X1.out.up hS1).cell (j := 2) rfl))
              have l1 := (X1.out.up hS1).lt
              clear hS1; go_simp
              try rfl
            go_simp
            iterate 4
              refine mixH_take rfl (by rfl) ?_; apply Exists.intro; refine ⟨fun w1 hS1 => ?_, ?_⟩
              · clear hS1
                go_simp
                try rfl
              go_simp
            refine mixH_take rfl (by rfl) ?_; apply Exists.intro; refine ⟨fun w1 hS1 => ?_, ?_⟩
            · have h4 := (X0.out.up hS1).cell (j := 4) rfl
              have l0 := (X0.out.up hS1).lt
              clear hS1; go_simp
              try rfl
            go_simp; refine mixH_take rfl (by rfl) ?_; apply Exists.intro; refine ⟨fun w1 hS1 => ?_, ?_⟩
            · clear hS1
              go_simp
              try rfl
            go_simp; refine mixH_go rfl (by rfl) (fun K hK => ?_); go_simp; refine (CB.out _ (U.out.trans ((Up.refl _).drew.trans uA)) (X1.out.up ((Up.refl _).drew.trans uA)) (X2.out.up ((Up.refl _).drew.trans uA))).mono ?_; rintro x wB ⟨rfl, uB⟩; refine hK _ _ (((Up.refl _).drew.trans uA).trans uB) ?_; clear hK K; go_simp
            iterate 4
              refine mixH_take rfl (by rfl) ?_; apply Exists.intro; refine ⟨fun w1 hS1 => ?_, ?_⟩
              · clear hS1
                go_simp
                try rfl
              go_simp
            refine mixH_take rfl (by rfl) ?_; apply Exists.intro; refine ⟨fun w1 hS1 => ?_, ?_⟩
            · have h3 := (X0.out.up hS1).cell (j := 3) rfl
              have l0 := (X0.out.up hS1).lt
              clear hS1; go_simp
              try rfl
            go_simp; refine mixH_go rfl (by rfl) (fun K hK => ?_); go_simp; refine (CO.out _ (U.out.trans (((Up.refl _).drew.trans uA).trans uB))).mono ?_; rintro x wC ⟨gC, rfl, _, eC, uC⟩; refine hK _ _ ((((Up.refl _).drew.trans uA).trans uB).trans uC) ?_; clear hK K; go_simp; refine mixH_go rfl (by rfl) (fun K hK => ?_); go_simp; refine hK _ _ (((((Up.refl _).drew.trans uA).trans uB).trans uC).alloc _) ?_; clear hK K; go_simp; refine mixH_go rfl (by rfl) (fun K hK => ?_); go_simp; refine (CC.out _ gC (U.out.trans ((((Up.refl _).drew.trans uA).trans uB).trans uC)) eC).mono ?_; rintro x wD ⟨AD, cD, rfl, -, -, eD, -, uD⟩
            refine hK _ _ ((((((Up.refl _).drew.trans uA).trans uB).trans uC).alloc _).trans uD) ?_; clear hK K; go_simp; refine mixH_go rfl (by rfl) (fun K hK => ?_); go_simp; refine (CR.out _ _ cD eD).mono ?_; rintro x wE ⟨rfl, uE⟩; refine hK _ _ (((((((Up.refl _).drew.trans uA).trans uB).trans uC).alloc _).trans uD).trans uE) ?_; clear hK K; go_simp
            iterate 3
              refine mixH_take rfl (by rfl) ?_; apply Exists.intro; refine ⟨fun w1 hS1 => ?_, ?_⟩
              · clear hS1
                go_simp
                try rfl
              go_simp
            refine mixH_take rfl (by rfl) ?_; apply Exists.intro; refine ⟨fun w1 hS1 => ?_, ?_⟩
            · have h3 := (X0.out.up hS1).cell (j := 3) rfl
              have l0 := (X0.out.up hS1).lt
              clear hS1; go_simp
              try rfl
            go_simp; refine mixH_take rfl (by rfl) ?_; apply Exists.intro; refine ⟨fun w1 hS1 => ?_, ?_⟩
            · clear hS1
              go_simp
              try rfl
            go_simp; refine mixH_go rfl (by rfl) (fun K hK => ?_); go_simp; refine (CP.out _ (U.out.trans (((((((Up.refl _).drew.trans uA).trans uB).trans uC).alloc _).trans uD).trans uE)) (X1.out.up (((((((Up.refl _).drew.trans uA).trans uB).trans uC).alloc _).trans uD).trans uE)) (X2.out.up (((((((Up.refl _).drew.trans uA).trans uB).trans uC).alloc _).trans uD).trans uE))).mono ?_; rintro x wF ⟨rfl, uF⟩; refine hK _ _ ((((((((Up.refl _).drew.trans uA).trans uB).trans uC).alloc _).trans uD).trans uE).trans uF) ?_; clear hK K; go_simp
            iterate 4
              refine mixH_take rfl (by rfl) ?_; apply Exists.intro; refine ⟨fun w1 hS1 => ?_, ?_⟩
              · clear hS1
                go_simp
                try rfl
              go_simp
            refine mixH_go rfl (by rfl) (fun K hK => ?_); go_simp; refine (CL.out _ (U.out.trans ((((((((Up.refl _).drew.trans uA).trans uB).trans uC).alloc _).trans uD).trans uE).trans uF)) (X1.out.up ((((((((Up.refl _).drew.trans uA).trans uB).trans uC).alloc _).trans uD).trans uE).trans uF)) (X2.out.up ((((((((Up.refl _).drew.trans uA).trans uB).trans uC).alloc _).trans uD).trans uE).trans uF))).mono ?_; rintro x wG ⟨rfl, uG⟩; refine hK _ _ (((((((((Up.refl _).drew.trans uA).trans uB).trans uC).alloc _).trans uD).trans uE).trans uF).trans uG) ?_; clear hK K; go_simp
            iterate 2
              refine mixH_take rfl (by rfl) ?_; apply Exists.intro; refine ⟨fun w1 hS1 => ?_, ?_⟩
              · clear hS1
                go_simp
                try rfl
              go_simp
            refine mixH_nil ?_
            have UE := Lib.hid (U.out.trans (((((((((Up.refl _).drew.trans uA).trans uB).trans uC).alloc _).trans uD).trans uE).trans uF).trans uG))
            go_wp2; go_ret
            exact ⟨rfl, UE.out⟩
end Go.Proofs.Ytklldniapombiaa

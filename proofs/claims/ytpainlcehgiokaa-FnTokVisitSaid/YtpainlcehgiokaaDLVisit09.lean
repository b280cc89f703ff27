/-
  Whether a machine takes a mark or a token, in one sentence: its numbers lie in their ranges; for every machine.
-/
import Derived.Test.YtpainlcehgiokaaDLVisit02
import Derived.Test.YtpainlcehgiokaaDLVisit08
namespace Go.Proofs.Ytpainlcehgiokaa
set_option maxRecDepth 100000
open Go.RowKit
theorem never_any (mb : Option Nat) (many til : Int) (w : World) (h0 : 0 ≤ til ∧ til ≤ 99) :
    Calls Try.prog 43 #[.agg #[.map mb, .int .i64 many, .int .i64 til]] w fun x w' => x = .returned (.int .i64 (til + 1)) ∧ Up w w' := by
  have i1 : IntKind.i64.wrap (til + 1) = til + 1 := IntWalk.i64_in _ (by omega)
  go_enter Try.func43, Try.ntmps43
  go_wp2; go_ret
  exact ⟨rfl, (Up.refl _).alloc _⟩
set_option maxHeartbeats 4000000 in
theorem markOk_any (mb : Option Nat) (many til : Int) (g : Gm) (w : World) (h0 : 0 ≤ til ∧ til ≤ 99) (h1 : 1 ≤ many ∧ many ≤ 4) :
    Calls Try.prog 23 #[.agg #[.map mb, .int .i64 many, .int .i64 til], g.v] w fun x w' => x = .returned (.bool (gmB til g)) ∧ Up w w' := by
  obtain ⟨gr, ge, gq, gl⟩ := g; unfold gmB Gm.v; dsimp only
  have i1 : IntKind.i64.wrap (many - 1) = many - 1 := IntWalk.i64_in _ (by omega)
  have CN := Lib.hid (fun W => never_any mb many til W h0)
  clear h0 h1
  have C0 := Lib.hid (fun W => within_any gr 0 999 W)
  generalize inB gr 0 999 = b0 at C0 ⊢
  have C1 := Lib.hid (fun W => within_any ge (-9999) 9999 W)
  generalize inB ge (-9999) 9999 = b1 at C1 ⊢
  have C2 := Lib.hid (fun W => within_any gq (-9999) 9999 W)
  generalize inB gq (-9999) 9999 = b2 at C2 ⊢
  have C3 := Lib.hid (fun W => within_any gl 0 (til + 1) W)
  generalize inB gl 0 (til + 1) = b3 at C3 ⊢
  have X0 := Lib.hid ((Bk.new w #[.map mb, .int .i64 many, .int .i64 til] 59).alloc (.cells #[.int .i64 gr, .int .i64 ge, .int .i64 gq, .int .i64 gl] 30))
  have X1 := Lib.hid (Bk.new (w.alloc (.cells #[.map mb, .int .i64 many, .int .i64 til] 59)) #[.int .i64 gr, .int .i64 ge, .int .i64 gq, .int .i64 gl] 30)
  simp only [World.size_alloc] at X1
  have U := Lib.hid (((Up.refl w).alloc (.cells #[.map mb, .int .i64 many, .int .i64 til] 59)).alloc (.cells #[.int .i64 gr, .int .i64 ge, .int .i64 gq, .int .i64 gl] 30))
  cases b0
  · simp only [Bool.false_and]
    go_enter Try.func23, Try.ntmps23
    go_wp2_with fail
    generalize (w.alloc (.cells #[.map mb, .int .i64 many, .int .i64 til] 59)).alloc (.cells #[.int .i64 gr, .int .i64 ge, .int .i64 gq, .int .i64 gl] 30) = W at *
    generalize hb1 : w.heap.size + 1 = b1 at *
    generalize hb0 : w.heap.size = b0 at *
    refine region_mixH (fun w' => Up W w') [(0, true), (1, true), (2, false), (3, true), (4, true), (5, true), (6, true), (7, true), (8, true), (9, true), (10, true), (11, true), (12, true), (13, true), (14, true), (15, true), (16, true), (17, true), (18, true), (19, true), (20, true)] (by kernel_rfl) (by kernel_rfl) (Up.refl _).drew ?_; refine mixH_take rfl (by rfl) ?_; apply Exists.intro; refine ⟨fun w1 hS1 => ?_, ?_⟩
    · clear hS1
      go_simp
      try rfl
    go_simp; refine mixH_take rfl (by rfl) ?_; apply Exists.intro; refine ⟨fun w1 hS1 => ?_, ?_⟩
    · obtain ⟨l0, l1⟩ := And.intro (X0.out.up hS1).lt (X1.out.up hS1).lt
      have z0 := (X0.out.up hS1).cell (j := 0) rfl
      have z1 := (X0.out.up hS1).cell (j := 1) rfl
      have z2 := (X0.out.up hS1).cell (j := 2) rfl
      have y0 := (X1.out.up hS1).cell (j := 0) rfl
      have y1 := (X1.out.up hS1).cell (j := 1) rfl
      have y2 := (X1.out.up hS1).cell (j := 2) rfl
      have y3 := (X1.out.up hS1).cell (j := 3) rfl
      clear hS1; go_simp
      try rfl
    go_simp; refine mixH_go rfl (by rfl) (fun K hK => ?_); go_simp; refine (C0.out _).mono ?_; rintro x wz ⟨rfl, rfl⟩; refine hK _ _ (Up.refl _).drew ?_; clear hK K; go_simp; refine mixH_take rfl (by rfl) ?_; apply Exists.intro; refine ⟨fun w1 hS1 => ?_, ?_⟩
    · clear hS1
      go_simp
      try rfl
    go_simp; refine mixH_skip rfl (by rfl) ?_; go_simp; refine mixH_skip rfl (by rfl) ?_; go_simp; refine mixH_skip rfl (by rfl) ?_; go_simp; refine mixH_take rfl (by rfl) ?_; apply Exists.intro; refine ⟨fun w1 hS1 => ?_, ?_⟩
    · clear hS1
      go_simp
      try rfl
    go_simp; refine mixH_take rfl (by rfl) ?_; apply Exists.intro; refine ⟨fun w1 hS1 => ?_, ?_⟩
    · clear hS1
      go_simp
      try rfl
    go_simp; refine mixH_skip rfl (by rfl) ?_; go_simp; refine mixH_skip rfl (by rfl) ?_; go_simp; refine mixH_skip rfl (by rfl) ?_; go_simp; refine mixH_take rfl (by rfl) ?_; apply Exists.intro; refine ⟨fun w1 hS1 => ?_, ?_⟩
    · clear hS1
      go_simp
      try rfl
    go_simp; refine mixH_take rfl (by rfl) ?_; apply Exists.intro; refine ⟨fun w1 hS1 => ?_, ?_⟩
    · clear hS1
      go_simp
      try rfl
    go_simp; refine mixH_skip rfl (by rfl) ?_; go_simp; refine mixH_skip rfl (by rfl) ?_; go_simp; refine mixH_skip rfl (by rfl) ?_; go_simp; refine mixH_skip rfl (by rfl) ?_; go_simp; refine mixH_skip rfl (by rfl) ?_; go_simp; refine mixH_take rfl (by rfl) ?_; apply Exists.intro; refine ⟨fun w1 hS1 => ?_, ?_⟩
    · clear hS1
      go_simp
      try rfl
    go_simp; refine mixH_take rfl (by rfl) ?_; apply Exists.intro; refine ⟨fun w1 hS1 => ?_, ?_⟩
    · clear hS1
      go_simp
      try rfl
    go_simp; refine mixH_nil ?_; go_wp2; go_ret
    exact ⟨rfl, U.out.trans (Up.refl _).drew⟩
  · simp only [Bool.true_and]
    cases b1
    · simp only [Bool.false_and]
      go_enter Try.func23, Try.ntmps23
      go_wp2_with fail
      generalize (w.alloc (.cells #[.map mb, .int .i64 many, .int .i64 til] 59)).alloc (.cells #[.int .i64 gr, .int .i64 ge, .int .i64 gq, .int .i64 gl] 30) = W at *
      generalize hb1 : w.heap.size + 1 = b1 at *
      generalize hb0 : w.heap.size = b0 at *
      refine region_mixH (fun w' => Up W w') [(0, true), (1, true), (2, false), (3, true), (4, true), (5, true), (6, false), (7, true), (8, true), (9, true), (10, true), (11, true), (12, true), (13, true), (14, true), (15, true), (16, true), (17, true), (18, true), (19, true), (20, true)] (by kernel_rfl) (by kernel_rfl) (Up.refl _).drew ?_; refine mixH_take rfl (by rfl) ?_; apply Exists.intro; refine ⟨fun w1 hS1 => ?_, ?_⟩
      · clear hS1
        go_simp
        try rfl
      go_simp; refine mixH_take rfl (by rfl) ?_; apply Exists.intro; refine ⟨fun w1 hS1 => ?_, ?_⟩
      · obtain ⟨l0, l1⟩ := And.intro (X0.out.up hS1).lt (X1.out.up hS1).lt
        have z0 := (X0.out.up hS1).cell (j := 0) rfl
        have z1 := (X0.out.up hS1).cell (j := 1) rfl
        have z2 := (X0.out.up hS1).cell (j := 2) rfl
        have y0 := (X1.out.up hS1).cell (j := 0) rfl
        have y1 := (X1.out.up hS1).cell (j := 1) rfl
        have y2 := (X1.out.up hS1).cell (j := 2) rfl
        have y3 := (X1.out.up hS1).cell (j := 3) rfl
        clear hS1; go_simp
        try rfl
      go_simp; refine mixH_go rfl (by rfl) (fun K hK => ?_); go_simp; refine (C0.out _).mono ?_; rintro x wz ⟨rfl, rfl⟩; refine hK _ _ (Up.refl _).drew ?_; clear hK K; go_simp; refine mixH_take rfl (by rfl) ?_; apply Exists.intro; refine ⟨fun w1 hS1 => ?_, ?_⟩
      · clear hS1
        go_simp
        try rfl
      go_simp; refine mixH_take rfl (by rfl) ?_; apply Exists.intro; refine ⟨fun w1 hS1 => ?_, ?_⟩
      · clear hS1
        go_simp
        try rfl
      go_simp; refine mixH_take rfl (by rfl) ?_; apply Exists.intro; refine ⟨fun w1 hS1 => ?_, ?_⟩
      · obtain ⟨l0, l1⟩ := And.intro (X0.out.up hS1).lt (X1.out.up hS1).lt
        have z0 := (X0.out.up hS1).cell (j := 0) rfl
        have z1 := (X0.out.up hS1).cell (j := 1) rfl
        have z2 := (X0.out.up hS1).cell (j := 2) rfl
        have y0 := (X1.out.up hS1).cell (j := 0) rfl
        have y1 := (X1.out.up hS1).cell (j := 1) rfl
        have y2 := (X1.out.up hS1).cell (j := 2) rfl
        have y3 := (X1.out.up hS1).cell (j := 3) rfl
        clear hS1; go_simp
        try rfl
      go_simp; refine mixH_go rfl (by rfl) (fun K hK => ?_); go_simp; refine (C1.out _).mono ?_; rintro x wz ⟨rfl, rfl⟩; refine hK _ _ (Up.refl _).drew ?_; clear hK K; go_simp; refine mixH_take rfl (by rfl) ?_; apply Exists.intro; refine ⟨fun w1 hS1 => ?_, ?_⟩
      · clear hS1
        go_simp
        try rfl
      go_simp; refine mixH_take rfl (by rfl) ?_; apply Exists.intro; refine ⟨fun w1 hS1 => ?_, ?_⟩
      · clear hS1
        go_simp
        try rfl
      go_simp; refine mixH_skip rfl (by rfl) ?_; go_simp; refine mixH_skip rfl (by rfl) ?_; go_simp; refine mixH_skip rfl (by rfl) ?_; go_simp; refine mixH_take rfl (by rfl) ?_; apply Exists.intro; refine ⟨fun w1 hS1 => ?_, ?_⟩
      · clear hS1
        go_simp
        try rfl
      go_simp; refine mixH_take rfl (by rfl) ?_; apply Exists.intro; refine ⟨fun w1 hS1 => ?_, ?_⟩
      · clear hS1
        go_simp
        try rfl
      go_simp; refine mixH_skip rfl (by rfl) ?_; go_simp; refine mixH_skip rfl (by rfl) ?_; go_simp; refine mixH_skip rfl (by rfl) ?_; go_simp; refine mixH_skip rfl (by rfl) ?_; go_simp; refine mixH_skip rfl (by rfl) ?_; go_simp; refine mixH_take rfl (by rfl) ?_; apply Exists.intro; refine ⟨fun w1 hS1 => ?_, ?_⟩
      · clear hS1
        go_simp
        try rfl
      go_simp; refine mixH_take rfl (by rfl) ?_; apply Exists.intro; refine ⟨fun w1 hS1 => ?_, ?_⟩
      · clear hS1
        go_simp
        try rfl
      go_simp; refine mixH_nil ?_; go_wp2; go_ret
      exact ⟨rfl, U.out.trans (Up.refl _).drew⟩
    · simp only [Bool.true_and]
      cases b2
      · simp only [Bool.false_and]
        go_enter Try.func23, Try.ntmps23
        go_wp2_with fail
        generalize (w.alloc (.cells #[.map mb, .int .i64 many, .int .i64 til] 59)).alloc (.cells #[.int .i64 gr, .int .i64 ge, .int .i64 gq, .int .i64 gl] 30) = W at *
        generalize hb1 : w.heap.size + 1 = b1 at *
        generalize hb0 : w.heap.size = b0 at *
        refine region_mixH (fun w' => Up W w') [(0, true), (1, true), (2, false), (3, true), (4, true), (5, true), (6, false), (7, true), (8, true), (9, true), (10, true), (11, false), (12, true), (13, true), (14, true), (15, true), (16, true), (17, true), (18, true), (19, true), (20, true)] (by kernel_rfl) (by kernel_rfl) (Up.refl _).drew ?_; refine mixH_take rfl (by rfl) ?_; apply Exists.intro; refine ⟨fun w1 hS1 => ?_, ?_⟩
        · clear hS1
          go_simp
          try rfl
        go_simp; refine mixH_take rfl (by rfl) ?_; apply Exists.intro; refine ⟨fun w1 hS1 => ?_, ?_⟩
        · obtain ⟨l0, l1⟩ := And.intro (X0.out.up hS1).lt (X1.out.up hS1).lt
          have z0 := (X0.out.up hS1).cell (j := 0) rfl
          have z1 := (X0.out.up hS1).cell (j := 1) rfl
          have z2 := (X0.out.up hS1).cell (j := 2) rfl
          have y0 := (X1.out.up hS1).cell (j := 0) rfl
          have y1 := (X1.out.up hS1).cell (j := 1) rfl
          have y2 := (X1.out.up hS1).cell (j := 2) rfl
          have y3 := (X1.out.up hS1).cell (j := 3) rfl
          clear hS1; go_simp
          try rfl
        go_simp; refine mixH_go rfl (by rfl) (fun K hK => ?_); go_simp; refine (C0.out _).mono ?_; rintro x wz ⟨rfl, rfl⟩; refine hK _ _ (Up.refl _).drew ?_; clear hK K; go_simp; refine mixH_take rfl (by rfl) ?_; apply Exists.intro; refine ⟨fun w1 hS1 => ?_, ?_⟩
        · clear hS1
          go_simp
          try rfl
        go_simp; refine mixH_take rfl (by rfl) ?_; apply Exists.intro; refine ⟨fun w1 hS1 => ?_, ?_⟩
        · clear hS1
          go_simp
          try rfl
        go_simp; refine mixH_take rfl (by rfl) ?_; apply Exists.intro; refine ⟨fun w1 hS1 => ?_, ?_⟩
        · obtain ⟨l0, l1⟩ := And.intro (X0.out.up hS1).lt (X1.out.up hS1).lt
          have z0 := (X0.out.up hS1).cell (j := 0) rfl
          have z1 := (X0.out.up hS1).cell (j := 1) rfl
          have z2 := (X0.out.up hS1).cell (j := 2) rfl
          have y0 := (X1.out.up hS1).cell (j := 0) rfl
          have y1 := (X1.out.up hS1).cell (j := 1) rfl
          have y2 := (X1.out.up hS1).cell (j := 2) rfl
          have y3 := (X1.out.up hS1).cell (j := 3) rfl
          clear hS1; go_simp
          try rfl
        go_simp; refine mixH_go rfl (by rfl) (fun K hK => ?_); go_simp; refine (C1.out _).mono ?_; rintro x wz ⟨rfl, rfl⟩; refine hK _ _ (Up.refl _).drew ?_; clear hK K; go_simp; refine mixH_take rfl (by rfl) ?_; apply Exists.intro; refine ⟨fun w1 hS1 => ?_, ?_⟩
        · clear hS1
          go_simp
          try rfl
        go_simp; refine mixH_take rfl (by rfl) ?_; apply Exists.intro; refine ⟨fun w1 hS1 => ?_, ?_⟩
        · clear hS1
          go_simp
          try rfl
        go_simp; refine mixH_take rfl (by rfl) ?_; apply Exists.intro; refine ⟨fun w1 hS1 => ?_, ?_⟩
        · clear hS1
          go_simp
          try rfl
        go_simp; refine mixH_take rfl (by rfl) ?_; apply Exists.intro; refine ⟨fun w1 hS1 => ?_, ?_⟩
        · obtain ⟨l0, l1⟩ := And.intro (X0.out.up hS1).lt (X1.out.up hS1).lt
          have z0 := (X0.out.up hS1).cell (j := 0) rfl
          have z1 := (X0.out.up hS1).cell (j := 1) rfl
          have z2 := (X0.out.up hS1).cell (j := 2) rfl
          have y0 := (X1.out.up hS1).cell (j := 0) rfl
          have y1 := (X1.out.up hS1).cell (j := 1) rfl
          have y2 := (X1.out.up hS1).cell (j := 2) rfl
          have y3 := (X1.out.up hS1).cell (j := 3) rfl
          clear hS1; go_simp
          try rfl
        go_simp; refine mixH_go rfl (by rfl) (fun K hK => ?_); go_simp; refine (C2.out _).mono ?_; rintro x wz ⟨rfl, rfl⟩; refine hK _ _ (Up.refl _).drew ?_; clear hK K; go_simp; refine mixH_take rfl (by rfl) ?_; apply Exists.intro; refine ⟨fun w1 hS1 => ?_, ?_⟩
        · clear hS1
          go_simp
          try rfl
        go_simp; refine mixH_take rfl (by rfl) ?_; apply Exists.intro; refine ⟨fun w1 hS1 => ?_, ?_⟩
        · clear hS1
          go_simp
          try rfl
        go_simp; refine mixH_skip rfl (by rfl) ?_; go_simp; refine mixH_skip rfl (by rfl) ?_; go_simp; refine mixH_skip rfl (by rfl) ?_; go_simp; refine mixH_skip rfl (by rfl) ?_; go_simp; refine mixH_skip rfl (by rfl) ?_; go_simp; refine mixH_take rfl (by rfl) ?_; apply Exists.intro; refine ⟨fun w1 hS1 => ?_, ?_⟩
        · clear hS1
          go_simp
          try rfl
        go_simp; refine mixH_take rfl (by rfl) ?_; apply Exists.intro; refine ⟨fun w1 hS1 => ?_, ?_⟩
        · clear hS1
          go_simp
          try rfl
        go_simp; refine mixH_nil ?_; go_wp2; go_ret
        exact ⟨rfl, U.out.trans (Up.refl _).drew⟩
      · simp only [Bool.true_and]
        cases b3
        all_goals
          try simp only [Bool.true_and, Bool.and_true]
          go_enter Try.func23, Try.ntmps23
          go_wp2_with fail
          generalize (w.alloc (.cells #[.map mb, .int .i64 many, .int .i64 til] 59)).alloc (.cells #[.int .i64 gr, .int .i64 ge, .int .i64 gq, .int .i64 gl] 30) = W at *
          generalize hb1 : w.heap.size + 1 = b1 at *
          generalize hb0 : w.heap.size = b0 at *
          refine region_mixH (fun w' => Up W w') [(0, true), (1, true), (2, false), (3, true), (4, true), (5, true), (6, false), (7, true), (8, true), (9, true), (10, true), (11, false), (12, true), (13, true), (14, true), (15, true), (16, true), (17, false), (18, false), (19, true), (20, true)] (by kernel_rfl) (by kernel_rfl) (Up.refl _).drew ?_; refine mixH_take rfl (by rfl) ?_; apply Exists.intro; refine ⟨fun w1 hS1 => ?_, ?_⟩
          · clear hS1
            go_simp
            try rfl
          go_simp; refine mixH_take rfl (by rfl) ?_; apply Exists.intro; refine ⟨fun w1 hS1 => ?_, ?_⟩
          · obtain ⟨l0, l1⟩ := And.intro (X0.out.up hS1).lt (X1.out.up hS1).lt
            have z0 := (X0.out.up hS1).cell (j := 0) rfl
            have z1 := (X0.out.up hS1).cell (j := 1) rfl
            have z2 := (X0.out.up hS1).cell (j := 2) rfl
            have y0 := (X1.out.up hS1).cell (j := 0) rfl
            have y1 := (X1.out.up hS1).cell (j := 1) rfl
            have y2 := (X1.out.up hS1).cell (j := 2) rfl
            have y3 := (X1.out.up hS1).cell (j := 3) rfl
            clear hS1; go_simp
            try rfl
          go_simp; refine mixH_go rfl (by rfl) (fun K hK => ?_); go_simp; refine (C0.out _).mono ?_; rintro x wz ⟨rfl, rfl⟩; refine hK _ _ (Up.refl _).drew ?_; clear hK K; go_simp; refine mixH_take rfl (by rfl) ?_; apply Exists.intro; refine ⟨fun w1 hS1 => ?_, ?_⟩
          · clear hS1
            go_simp
            try rfl
          go_simp; refine mixH_take rfl (by rfl) ?_; apply Exists.intro; refine ⟨fun w1 hS1 => ?_, ?_⟩
          · clear hS1
            go_simp
            try rfl
          go_simp; refine mixH_take rfl (by rfl) ?_; apply Exists.intro; refine ⟨fun w1 hS1 => ?_, ?_⟩
          · obtain ⟨l0, l1⟩ := And.intro (X0.out.up hS1).lt (X1.out.up hS1).lt
            have z0 := (X0.out.up hS1).cell (j := 0) rfl
            have z1 := (X0.out.up hS1).cell (j := 1) rfl
            have z2 := (X0.out.up hS1).cell (j := 2) rfl
            have y0 := (X1.out.up hS1).cell (j := 0) rfl
            have y1 := (X1.out.up hS1).cell (j := 1) rfl
            have y2 := (X1.out.up hS1).cell (j := 2) rfl
            have y3 := (X1.out.up hS1).cell (j := 3) rfl
            clear hS1; go_simp
            try rfl
          go_simp; refine mixH_go rfl (by rfl) (fun K hK => ?_); go_simp; refine (C1.out _).mono ?_; rintro x wz ⟨rfl, rfl⟩; refine hK _ _ (Up.refl _).drew ?_; clear hK K; go_simp; refine mixH_take rfl (by rfl) ?_; apply Exists.intro; refine ⟨fun w1 hS1 => ?_, ?_⟩
          · clear hS1
            go_simp
            try rfl
          go_simp; refine mixH_take rfl (by rfl) ?_; apply Exists.intro; refine ⟨fun w1 hS1 => ?_, ?_⟩
          · clear hS1
            go_simp
            try rfl
          go_simp; refine mixH_take rfl (by rfl) ?_; apply Exists.intro; refine ⟨fun w1 hS1 => ?_, ?_⟩
          · clear hS1
            go_simp
            try rfl
          go_simp; refine mixH_take rfl (by rfl) ?_; apply Exists.intro; refine ⟨fun w1 hS1 => ?_, ?_⟩
          · obtain ⟨l0, l1⟩ := And.intro (X0.out.up hS1).lt (X1.out.up hS1).lt
            have z0 := (X0.out.up hS1).cell (j := 0) rfl
            have z1 := (X0.out.up hS1).cell (j := 1) rfl
            have z2 := (X0.out.up hS1).cell (j := 2) rfl
            have y0 := (X1.out.up hS1).cell (j := 0) rfl
            have y1 := (X1.out.up hS1).cell (j := 1) rfl
            have y2 := (X1.out.up hS1).cell (j := 2) rfl
            have y3 := (X1.out.up hS1).cell (j := 3) rfl
            clear hS1; go_simp
            try rfl
          go_simp; refine mixH_go rfl (by rfl) (fun K hK => ?_); go_simp; refine (C2.out _).mono ?_; rintro x wz ⟨rfl, rfl⟩; refine hK _ _ (Up.refl _).drew ?_; clear hK K; go_simp; refine mixH_take rfl (by rfl) ?_; apply Exists.intro; refine ⟨fun w1 hS1 => ?_, ?_⟩
          · clear hS1
            go_simp
            try rfl
          go_simp; refine mixH_take rfl (by rfl) ?_; apply Exists.intro; refine ⟨fun w1 hS1 => ?_, ?_⟩
          · clear hS1
            go_simp
            try rfl
          go_simp; refine mixH_take rfl (by rfl) ?_; apply Exists.intro; refine ⟨fun w1 hS1 => ?_, ?_⟩
          · clear hS1
            go_simp
            try rfl
          go_simp; refine mixH_take rfl (by rfl) ?_; apply Exists.intro; refine ⟨fun w1 hS1 => ?_, ?_⟩
          · obtain ⟨l0, l1⟩ := And.intro (X0.out.up hS1).lt (X1.out.up hS1).lt
            have z0 := (X0.out.up hS1).cell (j := 0) rfl
            have z1 := (X0.out.up hS1).cell (j := 1) rfl
            have z2 := (X0.out.up hS1).cell (j := 2) rfl
            have y0 := (X1.out.up hS1).cell (j := 0) rfl
            have y1 := (X1.out.up hS1).cell (j := 1) rfl
            have y2 := (X1.out.up hS1).cell (j := 2) rfl
            have y3 := (X1.out.up hS1).cell (j := 3) rfl
            clear hS1; go_simp
            try rfl
          go_simp; refine mixH_take rfl (by rfl) ?_; apply Exists.intro; refine ⟨fun w1 hS1 => ?_, ?_⟩
          · obtain ⟨l0, l1⟩ := And.intro (X0.out.up hS1).lt (X1.out.up hS1).lt
            have z0 := (X0.out.up hS1).cell (j := 0) rfl
            have z1 := (X0.out.up hS1).cell (j := 1) rfl
            have z2 := (X0.out.up hS1).cell (j := 2) rfl
            have y0 := (X1.out.up hS1).cell (j := 0) rfl
            have y1 := (X1.out.up hS1).cell (j := 1) rfl
            have y2 := (X1.out.up hS1).cell (j := 2) rfl
            have y3 := (X1.out.up hS1).cell (j := 3) rfl
            clear hS1; go_simp
            try rfl
          go_simp; refine mixH_go rfl (by rfl) (fun K hK => ?_); go_simp; refine (CN.out _).mono ?_; rintro x wz ⟨rfl, uA⟩; refine hK _ _ ((Up.refl _).drew.trans uA) ?_; clear hK K; go_simp; refine mixH_go rfl (by rfl) (fun K hK => ?_); go_simp; refine (C3.out _).mono ?_; rintro x wz ⟨rfl, rfl⟩; refine hK _ _ ((Up.refl _).drew.trans uA) ?_; clear hK K; go_simp; refine mixH_take rfl (by rfl) ?_; apply Exists.intro; refine ⟨fun w1 hS1 => ?_, ?_⟩
          · clear hS1
            go_simp
            try rfl
          go_simp; refine mixH_take rfl (by rfl) ?_; apply Exists.intro; refine ⟨fun w1 hS1 => ?_, ?_⟩
          · clear hS1
            go_simp
            try rfl
          go_simp; refine mixH_nil ?_; go_wp2; go_ret
          exact ⟨rfl, U.out.trans ((Up.refl _).drew.trans uA)⟩
set_option maxHeartbeats 4000000 in
theorem tokenOk_any (mb : Option Nat) (many til : Int) (g : Gk) (w : World) (h0 : 0 ≤ til ∧ til ≤ 99) (h1 : 1 ≤ many ∧ many ≤ 4) :
    Calls Try.prog 22 #[.agg #[.map mb, .int .i64 many, .int .i64 til], g.v] w fun x w' => x = .returned (.bool (gkB til many g)) ∧ Up w w' := by
  obtain ⟨ton, tr, ta, tn, tl⟩ := g; unfold gkB Gk.v; dsimp only
  have i1 : IntKind.i64.wrap (many - 1) = many - 1 := IntWalk.i64_in _ (by omega)
  have CN := Lib.hid (fun W => never_any mb many til W h0)
  clear h0 h1
  have C0 := Lib.hid (fun W => within_any tr 0 999 W)
  generalize inB tr 0 999 = b0 at C0 ⊢
  have C1 := Lib.hid (fun W => within_any ta 0 (many - 1) W)
  generalize inB ta 0 (many - 1) = b1 at C1 ⊢
  have C2 := Lib.hid (fun W => within_any tn (-39996) 39996 W)
  generalize inB tn (-39996) 39996 = b2 at C2 ⊢
  have C3 := Lib.hid (fun W => within_any tl 0 (til + 1) W)
  generalize inB tl 0 (til + 1) = b3 at C3 ⊢
  have X0 := Lib.hid ((Bk.new w #[.map mb, .int .i64 many, .int .i64 til] 59).alloc (.cells #[.bool ton, .int .i64 tr, .int .i64 ta, .int .i64 tn, .int .i64 tl] 28))
  have X1 := Lib.hid (Bk.new (w.alloc (.cells #[.map mb, .int .i64 many, .int .i64 til] 59)) #[.bool ton, .int .i64 tr, .int .i64 ta, .int .i64 tn, .int .i64 tl] 28)
  simp only [World.size_alloc] at X1
  have U := Lib.hid (((Up.refl w).alloc (.cells #[.map mb, .int .i64 many, .int .i64 til] 59)).alloc (.cells #[.bool ton, .int .i64 tr, .int .i64 ta, .int .i64 tn, .int .i64 tl] 28))
  cases b0
  · simp only [Bool.false_and]
    go_enter Try.func22, Try.ntmps22
    go_wp2_with fail
    generalize (w.alloc (.cells #[.map mb, .int .i64 many, .int .i64 til] 59)).alloc (.cells #[.bool ton, .int .i64 tr, .int .i64 ta, .int .i64 tn, .int .i64 tl] 28) = W at *
    generalize hb1 : w.heap.size + 1 = b1 at *
    generalize hb0 : w.heap.size = b0 at *
    refine region_mixH (fun w' => Up W w') [(0, true), (1, true), (2, false), (3, true), (4, true), (5, true), (6, true), (7, true), (8, true), (9, true), (10, true), (11, true), (12, true), (13, true), (14, true), (15, true), (16, true), (17, true), (18, true), (19, true), (20, true), (21, true), (22, true), (23, true)] (by kernel_rfl) (by kernel_rfl) (Up.refl _).drew ?_; refine mixH_take rfl (by rfl) ?_; apply Exists.intro; refine ⟨fun w1 hS1 => ?_, ?_⟩
    · clear hS1
      go_simp
      try rfl
    go_simp; refine mixH_take rfl (by rfl) ?_; apply Exists.intro; refine ⟨fun w1 hS1 => ?_, ?_⟩
    · obtain ⟨l0, l1⟩ := And.intro (X0.out.up hS1).lt (X1.out.up hS1).lt
      have z0 := (X0.out.up hS1).cell (j := 0) rfl
      have z1 := (X0.out.up hS1).cell (j := 1) rfl
      have z2 := (X0.out.up hS1).cell (j := 2) rfl
      have y0 := (X1.out.up hS1).cell (j := 0) rfl
      have y1 := (X1.out.up hS1).cell (j := 1) rfl
      have y2 := (X1.out.up hS1).cell (j := 2) rfl
      have y3 := (X1.out.up hS1).cell (j := 3) rfl
      have y4 := (X1.out.up hS1).cell (j := 4) rfl
      clear hS1; go_simp
      try rfl
    go_simp; refine mixH_go rfl (by rfl) (fun K hK => ?_); go_simp; refine (C0.out _).mono ?_; rintro x wz ⟨rfl, rfl⟩; refine hK _ _ (Up.refl _).drew ?_; clear hK K; go_simp; refine mixH_take rfl (by rfl) ?_; apply Exists.intro; refine ⟨fun w1 hS1 => ?_, ?_⟩
    · clear hS1
      go_simp
      try rfl
    go_simp; refine mixH_skip rfl (by rfl) ?_; go_simp; refine mixH_skip rfl (by rfl) ?_; go_simp; refine mixH_skip rfl (by rfl) ?_; go_simp; refine mixH_skip rfl (by rfl) ?_; go_simp; refine mixH_skip rfl (by rfl) ?_; go_simp; refine mixH_skip rfl (by rfl) ?_; go_simp; refine mixH_take rfl (by rfl) ?_; apply Exists.intro; refine ⟨fun w1 hS1 => ?_, ?_⟩
    · clear hS1
      go_simp
      try rfl
    go_simp; refine mixH_take rfl (by rfl) ?_; apply Exists.intro; refine ⟨fun w1 hS1 => ?_, ?_⟩
    · clear hS1
      go_simp
      try rfl
    go_simp; refine mixH_skip rfl (by rfl) ?_; go_simp; refine mixH_skip rfl (by rfl) ?_; go_simp; refine mixH_skip rfl (by rfl) ?_; go_simp; refine mixH_take rfl (by rfl) ?_; apply Exists.intro; refine ⟨fun w1 hS1 => ?_, ?_⟩
    · clear hS1
      go_simp
      try rfl
    go_simp; refine mixH_take rfl (by rfl) ?_; apply Exists.intro; refine ⟨fun w1 hS1 => ?_, ?_⟩
    · clear hS1
      go_simp
      try rfl
    go_simp; refine mixH_skip rfl (by rfl) ?_; go_simp; refine mixH_skip rfl (by rfl) ?_; go_simp; refine mixH_skip rfl (by rfl) ?_; go_simp; refine mixH_skip rfl (by rfl) ?_; go_simp; refine mixH_skip rfl (by rfl) ?_; go_simp; refine mixH_take rfl (by rfl) ?_; apply Exists.intro; refine ⟨fun w1 hS1 => ?_, ?_⟩
    · clear hS1
      go_simp
      try rfl
    go_simp; refine mixH_take rfl (by rfl) ?_; apply Exists.intro; refine ⟨fun w1 hS1 => ?_, ?_⟩
    · clear hS1
      go_simp
      try rfl
    go_simp; refine mixH_nil ?_; go_wp2; go_ret
    exact ⟨rfl, U.out.trans (Up.refl _).drew⟩
  · simp only [Bool.true_and]
    cases b1
    · simp only [Bool.false_and]
      go_enter Try.func22, Try.ntmps22
      go_wp2_with fail
      generalize (w.alloc (.cells #[.map mb, .int .i64 many, .int .i64 til] 59)).alloc (.cells #[.bool ton, .int .i64 tr, .int .i64 ta, .int .i64 tn, .int .i64 tl] 28) = W at *
      generalize hb1 : w.heap.size + 1 = b1 at *
      generalize hb0 : w.heap.size = b0 at *
      refine region_mixH (fun w' => Up W w') [(0, true), (1, true), (2, false), (3, true), (4, true), (5, true), (6, true), (7, true), (8, true), (9, false), (10, true), (11, true), (12, true), (13, true), (14, true), (15, true), (16, true), (17, true), (18, true), (19, true), (20, true), (21, true), (22, true), (23, true)] (by kernel_rfl) (by kernel_rfl) (Up.refl _).drew ?_; refine mixH_take rfl (by rfl) ?_; apply Exists.intro; refine ⟨fun w1 hS1 => ?_, ?_⟩
      · clear hS1
        go_simp
        try rfl
      go_simp; refine mixH_take rfl (by rfl) ?_; apply Exists.intro; refine ⟨fun w1 hS1 => ?_, ?_⟩
      · obtain ⟨l0, l1⟩ := And.intro (X0.out.up hS1).lt (X1.out.up hS1).lt
        have z0 := (X0.out.up hS1).cell (j := 0) rfl
        have z1 := (X0.out.up hS1).cell (j := 1) rfl
        have z2 := (X0.out.up hS1).cell (j := 2) rfl
        have y0 := (X1.out.up hS1).cell (j := 0) rfl
        have y1 := (X1.out.up hS1).cell (j := 1) rfl
        have y2 := (X1.out.up hS1).cell (j := 2) rfl
        have y3 := (X1.out.up hS1).cell (j := 3) rfl
        have y4 := (X1.out.up hS1).cell (j := 4) rfl
        clear hS1; go_simp
        try rfl
      go_simp; refine mixH_go rfl (by rfl) (fun K hK => ?_); go_simp; refine (C0.out _).mono ?_; rintro x wz ⟨rfl, rfl⟩; refine hK _ _ (Up.refl _).drew ?_; clear hK K; go_simp; refine mixH_take rfl (by rfl) ?_; apply Exists.intro; refine ⟨fun w1 hS1 => ?_, ?_⟩
      · clear hS1
        go_simp
        try rfl
      go_simp; refine mixH_take rfl (by rfl) ?_; apply Exists.intro; refine ⟨fun w1 hS1 => ?_, ?_⟩
      · clear hS1
        go_simp
        try rfl
      go_simp; refine mixH_take rfl (by rfl) ?_; apply Exists.intro; refine ⟨fun w1 hS1 => ?_, ?_⟩
      · obtain ⟨l0, l1⟩ := And.intro (X0.out.up hS1).lt (X1.out.up hS1).lt
        have z0 := (X0.out.up hS1).cell (j := 0) rfl
        have z1 := (X0.out.up hS1).cell (j := 1) rfl
        have z2 := (X0.out.up hS1).cell (j := 2) rfl
        have y0 := (X1.out.up hS1).cell (j := 0) rfl
        have y1 := (X1.out.up hS1).cell (j := 1) rfl
        have y2 := (X1.out.up hS1).cell (j := 2) rfl
        have y3 := (X1.out.up hS1).cell (j := 3) rfl
        have y4 := (X1.out.up hS1).cell (j := 4) rfl
        clear hS1; go_simp
        try rfl
      go_simp; refine mixH_take rfl (by rfl) ?_; apply Exists.intro; refine ⟨fun w1 hS1 => ?_, ?_⟩
      · clear hS1
        go_simp
        try rfl
      go_simp; refine mixH_take rfl (by rfl) ?_; apply Exists.intro; refine ⟨fun w1 hS1 => ?_, ?_⟩
      · obtain ⟨l0, l1⟩ := And.intro (X0.out.up hS1).lt (X1.out.up hS1).lt
        have z0 := (X0.out.up hS1).cell (j := 0) rfl
        have z1 := (X0.out.up hS1).cell (j := 1) rfl
        have z2 := (X0.out.up hS1).cell (j := 2) rfl
        have y0 := (X1.out.up hS1).cell (j := 0) rfl
        have y1 := (X1.out.up hS1).cell (j := 1) rfl
        have y2 := (X1.out.up hS1).cell (j := 2) rfl
        have y3 := (X1.out.up hS1).cell (j := 3) rfl
        have y4 := (X1.out.up hS1).cell (j := 4) rfl
        clear hS1; go_simp
        try rfl
      go_simp; refine mixH_take rfl (by rfl) ?_; apply Exists.intro; refine ⟨fun w1 hS1 => ?_, ?_⟩
      · clear hS1
        go_simp
        try rfl
      go_simp; refine mixH_go rfl (by rfl) (fun K hK => ?_); go_simp; refine (C1.out _).mono ?_; rintro x wz ⟨rfl, rfl⟩; refine hK _ _ (Up.refl _).drew ?_; clear hK K; go_simp; refine mixH_take rfl (by rfl) ?_; apply Exists.intro; refine ⟨fun w1 hS1 => ?_, ?_⟩
      · clear hS1
        go_simp
        try rfl
      go_simp; refine mixH_take rfl (by rfl) ?_; apply Exists.intro; refine ⟨fun w1 hS1 => ?_, ?_⟩
      · clear hS1
        go_simp
        try rfl
      go_simp; refine mixH_skip rfl (by rfl) ?_; go_simp; refine mixH_skip rfl (by rfl) ?_; go_simp; refine mixH_skip rfl (by rfl) ?_; go_simp; refine mixH_take rfl (by rfl) ?_; apply Exists.intro; refine ⟨fun w1 hS1 => ?_, ?_⟩
      · clear hS1
        go_simp
        try rfl
      go_simp; refine mixH_take rfl (by rfl) ?_; apply Exists.intro; refine ⟨fun w1 hS1 => ?_, ?_⟩
      · clear hS1
        go_simp
        try rfl
      go_simp; refine mixH_skip rfl (by rfl) ?_; go_simp; refine mixH_skip rfl (by rfl) ?_; go_simp; refine mixH_skip rfl (by rfl) ?_; go_simp; refine mixH_skip rfl (by rfl) ?_; go_simp; refine mixH_skip rfl (by rfl) ?_; go_simp; refine mixH_take rfl (by rfl) ?_; apply Exists.intro; refine ⟨fun w1 hS1 => ?_, ?_⟩
      · clear hS1
        go_simp
        try rfl
      go_simp; refine mixH_take rfl (by rfl) ?_; apply Exists.intro; refine ⟨fun w1 hS1 => ?_, ?_⟩
      · clear hS1
        go_simp
        try rfl
      go_simp; refine mixH_nil ?_; go_wp2; go_ret
      exact ⟨rfl, U.out.trans (Up.refl _).drew⟩
    · simp only [Bool.true_and]
      cases b2
      · simp only [Bool.false_and]
        go_enter Try.func22, Try.ntmps22
        go_wp2_with fail
        generalize (w.alloc (.cells #[.map mb, .int .i64 many, .int .i64 til] 59)).alloc (.cells #[.bool ton, .int .i64 tr, .int .i64 ta, .int .i64 tn, .int .i64 tl] 28) = W at *
        generalize hb1 : w.heap.size + 1 = b1 at *
        generalize hb0 : w.heap.size = b0 at *
        refine region_mixH (fun w' => Up W w') [(0, true), (1, true), (2, false), (3, true), (4, true), (5, true), (6, true), (7, true), (8, true), (9, false), (10, true), (11, true), (12, true), (13, true), (14, false), (15, true), (16, true), (17, true), (18, true), (19, true), (20, true), (21, true), (22, true), (23, true)] (by kernel_rfl) (by kernel_rfl) (Up.refl _).drew ?_; refine mixH_take rfl (by rfl) ?_; apply Exists.intro; refine ⟨fun w1 hS1 => ?_, ?_⟩
        · clear hS1
          go_simp
          try rfl
        go_simp; refine mixH_take rfl (by rfl) ?_; apply Exists.intro; refine ⟨fun w1 hS1 => ?_, ?_⟩
        · obtain ⟨l0, l1⟩ := And.intro (X0.out.up hS1).lt (X1.out.up hS1).lt
          have z0 := (X0.out.up hS1).cell (j := 0) rfl
          have z1 := (X0.out.up hS1).cell (j := 1) rfl
          have z2 := (X0.out.up hS1).cell (j := 2) rfl
          have y0 := (X1.out.up hS1).cell (j := 0) rfl
          have y1 := (X1.out.up hS1).cell (j := 1) rfl
          have y2 := (X1.out.up hS1).cell (j := 2) rfl
          have y3 := (X1.out.up hS1).cell (j := 3) rfl
          have y4 := (X1.out.up hS1).cell (j := 4) rfl
          clear hS1; go_simp
          try rfl
        go_simp; refine mixH_go rfl (by rfl) (fun K hK => ?_); go_simp; refine (C0.out _).mono ?_; rintro x wz ⟨rfl, rfl⟩; refine hK _ _ (Up.refl _).drew ?_; clear hK K; go_simp; refine mixH_take rfl (by rfl) ?_; apply Exists.intro; refine ⟨fun w1 hS1 => ?_, ?_⟩
        · clear hS1
          go_simp
          try rfl
        go_simp; refine mixH_take rfl (by rfl) ?_; apply Exists.intro; refine ⟨fun w1 hS1 => ?_, ?_⟩
        · clear hS1
          go_simp
          try rfl
        go_simp; refine mixH_take rfl (by rfl) ?_; apply Exists.intro; refine ⟨fun w1 hS1 => ?_, ?_⟩
        · obtain ⟨l0, l1⟩ := And.intro (X0.out.up hS1).lt (X1.out.up hS1).lt
          have z0 := (X0.out.up hS1).cell (j := 0) rfl
          have z1 := (X0.out.up hS1).cell (j := 1) rfl
          have z2 := (X0.out.up hS1).cell (j := 2) rfl
          have y0 := (X1.out.up hS1).cell (j := 0) rfl
          have y1 := (X1.out.up hS1).cell (j := 1) rfl
          have y2 := (X1.out.up hS1).cell (j := 2) rfl
          have y3 := (X1.out.up hS1).cell (j := 3) rfl
          have y4 := (X1.out.up hS1).cell (j := 4) rfl
          clear hS1; go_simp
          try rfl
        go_simp; refine mixH_take rfl (by rfl) ?_; apply Exists.intro; refine ⟨fun w1 hS1 => ?_, ?_⟩
        · clear hS1
          go_simp
          try rfl
        go_simp; refine mixH_take rfl (by rfl) ?_; apply Exists.intro; refine ⟨fun w1 hS1 => ?_, ?_⟩
        · obtain ⟨l0, l1⟩ := And.intro (X0.out.up hS1).lt (X1.out.up hS1).lt
          have z0 := (X0.out.up hS1).cell (j := 0) rfl
          have z1 := (X0.out.up hS1).cell (j := 1) rfl
          have z2 := (X0.out.up hS1).cell (j := 2) rfl
          have y0 := (X1.out.up hS1).cell (j := 0) rfl
          have y1 := (X1.out.up hS1).cell (j := 1) rfl
          have y2 := (X1.out.up hS1).cell (j := 2) rfl
          have y3 := (X1.out.up hS1).cell (j := 3) rfl
          have y4 := (X1.out.up hS1).cell (j := 4) rfl
          clear hS1; go_simp
          try rfl
        go_simp; refine mixH_take rfl (by rfl) ?_; apply Exists.intro; refine ⟨fun w1 hS1 => ?_, ?_⟩
        · clear hS1
          go_simp
          try rfl
        go_simp; refine mixH_go rfl (by rfl) (fun K hK => ?_); go_simp; refine (C1.out _).mono ?_; rintro x wz ⟨rfl, rfl⟩; refine hK _ _ (Up.refl _).drew ?_; clear hK K; go_simp; refine mixH_take rfl (by rfl) ?_; apply Exists.intro; refine ⟨fun w1 hS1 => ?_, ?_⟩
        · clear hS1
          go_simp
          try rfl
        go_simp; refine mixH_take rfl (by rfl) ?_; apply Exists.intro; refine ⟨fun w1 hS1 => ?_, ?_⟩
        · clear hS1
          go_simp
          try rfl
        go_simp; refine mixH_take rfl (by rfl) ?_; apply Exists.intro; refine ⟨fun w1 hS1 => ?_, ?_⟩
        · clear hS1
          go_simp
          try rfl
        go_simp; refine mixH_take rfl (by rfl) ?_; apply Exists.intro; refine ⟨fun w1 hS1 => ?_, ?_⟩
        · obtain ⟨l0, l1⟩ := And.intro (X0.out.up hS1).lt (X1.out.up hS1).lt
          have z0 := (X0.out.up hS1).cell (j := 0) rfl
          have z1 := (X0.out.up hS1).cell (j := 1) rfl
          have z2 := (X0.out.up hS1).cell (j := 2) rfl
          have y0 := (X1.out.up hS1).cell (j := 0) rfl
          have y1 := (X1.out.up hS1).cell (j := 1) rfl
          have y2 := (X1.out.up hS1).cell (j := 2) rfl
          have y3 := (X1.out.up hS1).cell (j := 3) rfl
          have y4 := (X1.out.up hS1).cell (j := 4) rfl
          clear hS1; go_simp
          try rfl
        go_simp; refine mixH_go rfl (by rfl) (fun K hK => ?_); go_simp; refine (C2.out _).mono ?_; rintro x wz ⟨rfl, rfl⟩; refine hK _ _ (Up.refl _).drew ?_; clear hK K; go_simp; refine mixH_take rfl (by rfl) ?_; apply Exists.intro; refine ⟨fun w1 hS1 => ?_, ?_⟩
        · clear hS1
          go_simp
          try rfl
        go_simp; refine mixH_take rfl (by rfl) ?_; apply Exists.intro; refine ⟨fun w1 hS1 => ?_, ?_⟩
        · clear hS1
          go_simp
          try rfl
        go_simp; refine mixH_skip rfl (by rfl) ?_; go_simp; refine mixH_skip rfl (by rfl) ?_; go_simp; refine mixH_skip rfl (by rfl) ?_; go_simp; refine mixH_skip rfl (by rfl) ?_; go_simp; refine mixH_skip rfl (by rfl) ?_; go_simp; refine mixH_take rfl (by rfl) ?_; apply Exists.intro; refine ⟨fun w1 hS1 => ?_, ?_⟩
        · clear hS1
          go_simp
          try rfl
        go_simp; refine mixH_take rfl (by rfl) ?_; apply Exists.intro; refine ⟨fun w1 hS1 => ?_, ?_⟩
        · clear hS1
          go_simp
          try rfl
        go_simp; refine mixH_nil ?_; go_wp2; go_ret
        exact ⟨rfl, U.out.trans (Up.refl _).drew⟩
      · simp only [Bool.true_and]
        cases b3
        all_goals
          try simp only [Bool.true_and, Bool.and_true]
          go_enter Try.func22, Try.ntmps22
          go_wp2_with fail
          generalize (w.alloc (.cells #[.map mb, .int .i64 many, .int .i64 til] 59)).alloc (.cells #[.bool ton, .int .i64 tr, .int .i64 ta, .int .i64 tn, .int .i64 tl] 28) = W at *
          generalize hb1 : w.heap.size + 1 = b1 at *
          generalize hb0 : w.heap.size = b0 at *
          refine region_mixH (fun w' => Up W w') [(0, true), (1, true), (2, false), (3, true), (4, true), (5, true), (6, true), (7, true), (8, true), (9, false), (10, true), (11, true), (12, true), (13, true), (14, false), (15, true), (16, true), (17, true), (18, true), (19, true), (20, false), (21, false), (22, true), (23, true)] (by kernel_rfl) (by kernel_rfl) (Up.refl _).drew ?_; refine mixH_take rfl (by rfl) ?_; apply Exists.intro; refine ⟨fun w1 hS1 => ?_, ?_⟩
          · clear hS1
            go_simp
            try rfl
          go_simp; refine mixH_take rfl (by rfl) ?_; apply Exists.intro; refine ⟨fun w1 hS1 => ?_, ?_⟩
          · obtain ⟨l0, l1⟩ := And.intro (X0.out.up hS1).lt (X1.out.up hS1).lt
            have z0 := (X0.out.up hS1).cell (j := 0) rfl
            have z1 := (X0.out.up hS1).cell (j := 1) rfl
            have z2 := (X0.out.up hS1).cell (j := 2) rfl
            have y0 := (X1.out.up hS1).cell (j := 0) rfl
            have y1 := (X1.out.up hS1).cell (j := 1) rfl
            have y2 := (X1.out.up hS1).cell (j := 2) rfl
            have y3 := (X1.out.up hS1).cell (j := 3) rfl
            have y4 := (X1.out.up hS1).cell (j := 4) rfl
            clear hS1; go_simp
            try rfl
          go_simp; refine mixH_go rfl (by rfl) (fun K hK => ?_); go_simp; refine (C0.out _).mono ?_; rintro x wz ⟨rfl, rfl⟩; refine hK _ _ (Up.refl _).drew ?_; clear hK K; go_simp; refine mixH_take rfl (by rfl) ?_; apply Exists.intro; refine ⟨fun w1 hS1 => ?_, ?_⟩
          · clear hS1
            go_simp
            try rfl
          go_simp; refine mixH_take rfl (by rfl) ?_; apply Exists.intro; refine ⟨fun w1 hS1 => ?_, ?_⟩
          · clear hS1
            go_simp
            try rfl
          go_simp; refine mixH_take rfl (by rfl) ?_; apply Exists.intro; refine ⟨fun w1 hS1 => ?_, ?_⟩
          · obtain ⟨l0, l1⟩ := And.intro (X0.out.up hS1).lt (X1.out.up hS1).lt
            have z0 := (X0.out.up hS1).cell (j := 0) rfl
            have z1 := (X0.out.up hS1).cell (j := 1) rfl
            have z2 := (X0.out.up hS1).cell (j := 2) rfl
            have y0 := (X1.out.up hS1).cell (j := 0) rfl
            have y1 := (X1.out.up hS1).cell (j := 1) rfl
            have y2 := (X1.out.up hS1).cell (j := 2) rfl
            have y3 := (X1.out.up hS1).cell (j := 3) rfl
            have y4 := (X1.out.up hS1).cell (j := 4) rfl
            clear hS1; go_simp
            try rfl
          go_simp; refine mixH_take rfl (by rfl) ?_; apply Exists.intro; refine ⟨fun w1 hS1 => ?_, ?_⟩
          · clear hS1
            go_simp
            try rfl
          go_simp; refine mixH_take rfl (by rfl) ?_; apply Exists.intro; refine ⟨fun w1 hS1 => ?_, ?_⟩
          · obtain ⟨l0, l1⟩ := And.intro (X0.out.up hS1).lt (X1.out.up hS1).lt
            have z0 := (X0.out.up hS1).cell (j := 0) rfl
            have z1 := (X0.out.up hS1).cell (j := 1) rfl
            have z2 := (X0.out.up hS1).cell (j := 2) rfl
            have y0 := (X1.out.up hS1).cell (j := 0) rfl
            have y1 := (X1.out.up hS1).cell (j := 1) rfl
            have y2 := (X1.out.up hS1).cell (j := 2) rfl
            have y3 := (X1.out.up hS1).cell (j := 3) rfl
            have y4 := (X1.out.up hS1).cell (j := 4) rfl
            clear hS1; go_simp
            try rfl
          go_simp; refine mixH_take rfl (by rfl) ?_; apply Exists.intro; refine ⟨fun w1 hS1 => ?_, ?_⟩
          · clear hS1
            go_simp
            try rfl
          go_simp; refine mixH_go rfl (by rfl) (fun K hK => ?_); go_simp; refine (C1.out _).mono ?_; rintro x wz ⟨rfl, rfl⟩; refine hK _ _ (Up.refl _).drew ?_; clear hK K; go_simp; refine mixH_take rfl (by rfl) ?_; apply Exists.intro; refine ⟨fun w1 hS1 => ?_, ?_⟩
          · clear hS1
            go_simp
            try rfl
          go_simp; refine mixH_take rfl (by rfl) ?_; apply Exists.intro; refine ⟨fun w1 hS1 => ?_, ?_⟩
          · clear hS1
            go_simp
            try rfl
          go_simp; refine mixH_take rfl (by rfl) ?_; apply Exists.intro; refine ⟨fun w1 hS1 => ?_, ?_⟩
          · clear hS1
            go_simp
            try rfl
          go_simp; refine mixH_take rfl (by rfl) ?_; apply Exists.intro; refine ⟨fun w1 hS1 => ?_, ?_⟩
          · obtain ⟨l0, l1⟩ := And.intro (X0.out.up hS1).lt (X1.out.up hS1).lt
            have z0 := (X0.out.up hS1).cell (j := 0) rfl
            have z1 := (X0.out.up hS1).cell (j := 1) rfl
            have z2 := (X0.out.up hS1).cell (j := 2) rfl
            have y0 := (X1.out.up hS1).cell (j := 0) rfl
            have y1 := (X1.out.up hS1).cell (j := 1) rfl
            have y2 := (X1.out.up hS1).cell (j := 2) rfl
            have y3 := (X1.out.up hS1).cell (j := 3) rfl
            have y4 := (X1.out.up hS1).cell (j := 4) rfl
            clear hS1; go_simp
            try rfl
          go_simp; refine mixH_go rfl (by rfl) (fun K hK => ?_); go_simp; refine (C2.out _).mono ?_; rintro x wz ⟨rfl, rfl⟩; refine hK _ _ (Up.refl _).drew ?_; clear hK K; go_simp; refine mixH_take rfl (by rfl) ?_; apply Exists.intro; refine ⟨fun w1 hS1 => ?_, ?_⟩
          · clear hS1
            go_simp
            try rfl
          go_simp; refine mixH_take rfl (by rfl) ?_; apply Exists.intro; refine ⟨fun w1 hS1 => ?_, ?_⟩
          · clear hS1
            go_simp
            try rfl
          go_simp; refine mixH_take rfl (by rfl) ?_; apply Exists.intro; refine ⟨fun w1 hS1 => ?_, ?_⟩
          · clear hS1
            go_simp
            try rfl
          go_simp; refine mixH_take rfl (by rfl) ?_; apply Exists.intro; refine ⟨fun w1 hS1 => ?_, ?_⟩
          · obtain ⟨l0, l1⟩ := And.intro (X0.out.up hS1).lt (X1.out.up hS1).lt
            have z0 := (X0.out.up hS1).cell (j := 0) rfl
            have z1 := (X0.out.up hS1).cell (j := 1) rfl
            have z2 := (X0.out.up hS1).cell (j := 2) rfl
            have y0 := (X1.out.up hS1).cell (j := 0) rfl
            have y1 := (X1.out.up hS1).cell (j := 1) rfl
            have y2 := (X1.out.up hS1).cell (j := 2) rfl
            have y3 := (X1.out.up hS1).cell (j := 3) rfl
            have y4 := (X1.out.up hS1).cell (j := 4) rfl
            clear hS1; go_simp
            try rfl
          go_simp; refine mixH_take rfl (by rfl) ?_; apply Exists.intro; refine ⟨fun w1 hS1 => ?_, ?_⟩
          · obtain ⟨l0, l1⟩ := And.intro (X0.out.up hS1).lt (X1.out.up hS1).lt
            have z0 := (X0.out.up hS1).cell (j := 0) rfl
            have z1 := (X0.out.up hS1).cell (j := 1) rfl
            have z2 := (X0.out.up hS1).cell (j := 2) rfl
            have y0 := (X1.out.up hS1).cell (j := 0) rfl
            have y1 := (X1.out.up hS1).cell (j := 1) rfl
            have y2 := (X1.out.up hS1).cell (j := 2) rfl
            have y3 := (X1.out.up hS1).cell (j := 3) rfl
            have y4 := (X1.out.up hS1).cell (j := 4) rfl
            clear hS1; go_simp
            try rfl
          go_simp; refine mixH_go rfl (by rfl) (fun K hK => ?_); go_simp; refine (CN.out _).mono ?_; rintro x wz ⟨rfl, uA⟩; refine hK _ _ ((Up.refl _).drew.trans uA) ?_; clear hK K; go_simp; refine mixH_go rfl (by rfl) (fun K hK => ?_); go_simp; refine (C3.out _).mono ?_; rintro x wz ⟨rfl, rfl⟩; refine hK _ _ ((Up.refl _).drew.trans uA) ?_; clear hK K; go_simp; refine mixH_take rfl (by rfl) ?_; apply Exists.intro; refine ⟨fun w1 hS1 => ?_, ?_⟩
          · clear hS1
            go_simp
            try rfl
          go_simp; refine mixH_take rfl (by rfl) ?_; apply Exists.intro; refine ⟨fun w1 hS1 => ?_, ?_⟩
          · clear hS1
            go_simp
            try rfl
          go_simp; refine mixH_nil ?_; go_wp2; go_ret
          exact ⟨rfl, U.out.trans ((Up.refl _).drew.trans uA)⟩
end Go.Proofs.Ytpainlcehgiokaa

/-
  What impl.MrkOk and impl.TokOk return, in one sentence: whether the model is one and the mark, or the token, is valid of it; for every model that lies in memory.
-/
import Derived.Test.YtojnphchkdjafaaGTok
import Derived.Test.YtojnphchkdjafaaMach
import Derived.Test.YtojnphchkdjafaaMixH
namespace Go.Proofs.Ytojnphchkdjafaa
set_option maxRecDepth 100000
open Go.RowKit

theorem never_any (mb : Option Nat) (many til : Int) (w : World) (h0 : 0 ≤ til ∧ til ≤ 99) :
    Calls Try.prog 65 #[.agg #[.map mb, .int .i64 many, .int .i64 til]] w fun x w' => x = .returned (.int .i64 (til + 1)) ∧ Up w w' := by
  have i1 : IntKind.i64.wrap (til + 1) = til + 1 := IntWalk.i64_in _ (by omega)
  go_enter Try.func65, Try.ntmps65
  go_wp2
  go_ret
  exact ⟨rfl, (Up.refl _).alloc _⟩

set_option maxHeartbeats 4000000 in
theorem markOk_any (mb : Option Nat) (many til : Int) (g : Gm) (w : World) (h0 : 0 ≤ til ∧ til ≤ 99) (h1 : 1 ≤ many ∧ many ≤ 4) :
    Calls Try.prog 37 #[.agg #[.map mb, .int .i64 many, .int .i64 til], g.v] w fun x w' => x = .returned (.bool (gmB til g)) ∧ Up w w' := by
  obtain ⟨gr, ge, gq, gl⟩ := g
  unfold gmB Gm.v
  dsimp only
  have i1 : IntKind.i64.wrap (many - 1) = many - 1 := IntWalk.i64_in _ (by omega)
  have CN := Lib.hid (fun W => never_any mb many til W h0)
  clear h0 h1
  have C0 := Lib.hid (fun W => within_any gr 0 999 W)
  generalize inB gr 0 999 = b0 at C0 ⊢
  have C1 := Lib.hid (fun W => within_any ge (-9999) 9999 W)
  generalize inB ge (-9999) 9999 = b1 at C1 ⊢
  have C2 := Lib.hid (fun W => within_any gq (-9999) 9999 W)
  generalize inB gq (-9999) 9999 = b2 at C2 ⊢
  have C3 := Lib.hid (fun W => within_any gl 0 (til + 1) W)
  generalize inB gl 0 (til + 1) = b3 at C3 ⊢
  have X0 := Lib.hid ((Bk.new w #[.map mb, .int .i64 many, .int .i64 til] 73).alloc (.cells #[.int .i64 gr, .int .i64 ge, .int .i64 gq, .int .i64 gl] 28))
  have X1 := Lib.hid (Bk.new (w.alloc (.cells #[.map mb, .int .i64 many, .int .i64 til] 73)) #[.int .i64 gr, .int .i64 ge, .int .i64 gq, .int .i64 gl] 28)
  simp only [World.size_alloc] at X1
  have U := Lib.hid (((Up.refl w).alloc (.cells #[.map mb, .int .i64 many, .int .i64 til] 73)).alloc (.cells #[.int .i64 gr, .int .i64 ge, .int .i64 gq, .int .i64 gl] 28))
  cases b0
  · simp only [Bool.false_and]
    go_enter Try.func37, Try.ntmps37
    go_wp2_with fail
    generalize (w.alloc (.cells #[.map mb, .int .i64 many, .int .i64 til] 73)).alloc (.cells #[.int .i64 gr, .int .i64 ge, .int .i64 gq, .int .i64 gl] 28) = W at *
    generalize hb1 : w.heap.size + 1 = b1 at *
    generalize hb0 : w.heap.size = b0 at *
    refine region_mixH (fun w' => Up W w') [(0, true), (1, true), (2, false), (3, true), (4, true), (5, true), (6, true), (7, true), (8, true), (9, true), (10, true), (11, true), (12, true), (13, true), (14, true), (15, true), (16, true), (17, true), (18, true), (19, true), (20, true)] (by kernel_rfl) (by kernel_rfl) (Up.refl _).drew ?_
    refine mixH_take rfl (by rfl) ?_
    apply Exists.intro
    refine ⟨fun w1 hS1 => ?_, ?_⟩
    · clear hS1
      go_simp
      try rfl
    go_simp
    refine mixH_take rfl (by rfl) ?_
    apply Exists.intro
    refine ⟨fun w1 hS1 => ?_, ?_⟩
    · obtain ⟨l0, l1⟩ := And.intro (X0.out.up hS1).lt (X1.out.up hS1).lt
      have z0 := (X0.out.up hS1).cell (j := 0) rfl
      have z1 := (X0.out.up hS1).cell (j := 1) rfl
      have z2 := (X0.out.up hS1).cell (j := 2) rfl
      have y0 := (X1.out.up hS1).cell (j := 0) rfl
      have y1 := (X1.out.up hS1).cell (j := 1) rfl
      have y2 := (X1.out.up hS1).cell (j := 2) rfl
      have y3 := (X1.out.up hS1).cell (j := 3) rfl
      clear hS1
      go_simp
      try rfl
    go_simp
    refine mixH_go rfl (by rfl) (fun K hK => ?_)
    go_simp
    refine (C0.out _).mono ?_
    rintro x wz ⟨rfl, rfl⟩
    refine hK _ _ (Up.refl _).drew ?_
    clear hK K
    go_simp
    refine mixH_take rfl (by rfl) ?_
    apply Exists.intro
    refine ⟨fun w1 hS1 => ?_, ?_⟩
    · clear hS1
      go_simp
      try rfl
    go_simp
    refine mixH_skip rfl (by rfl) ?_
    go_simp
    refine mixH_skip rfl (by rfl) ?_
    go_simp
    refine mixH_skip rfl (by rfl) ?_
    go_simp
    refine mixH_take rfl (by rfl) ?_
    apply Exists.intro
    refine ⟨fun w1 hS1 => ?_, ?_⟩
    · clear hS1
      go_simp
      try rfl
    go_simp
    refine mixH_take rfl (by rfl) ?_
    apply Exists.intro
    refine ⟨fun w1 hS1 => ?_, ?_⟩
    · clear hS1
      go_simp
      try rfl
    go_simp
    refine mixH_skip rfl (by rfl) ?_
    go_simp
    refine mixH_skip rfl (by rfl) ?_
    go_simp
    refine mixH_skip rfl (by rfl) ?_
    go_simp
    refine mixH_take rfl (by rfl) ?_
    apply Exists.intro
    refine ⟨fun w1 hS1 => ?_, ?_⟩
    · clear hS1
      go_simp
      try rfl
    go_simp
    refine mixH_take rfl (by rfl) ?_
    apply Exists.intro
    refine ⟨fun w1 hS1 => ?_, ?_⟩
    · clear hS1
      go_simp
      try rfl
    go_simp
    refine mixH_skip rfl (by rfl) ?_
    go_simp
    refine mixH_skip rfl (by rfl) ?_
    go_simp
    refine mixH_skip rfl (by rfl) ?_
    go_simp
    refine mixH_skip rfl (by rfl) ?_
    go_simp
    refine mixH_skip rfl (by rfl) ?_
    go_simp
    refine mixH_take rfl (by rfl) ?_
    apply Exists.intro
    refine ⟨fun w1 hS1 => ?_, ?_⟩
    · clear hS1
      go_simp
      try rfl
    go_simp
    refine mixH_take rfl (by rfl) ?_
    apply Exists.intro
    refine ⟨fun w1 hS1 => ?_, ?_⟩
    · clear hS1
      go_simp
      try rfl
    go_simp
    refine mixH_nil ?_
    go_wp2
    go_ret
    exact ⟨rfl, U.out.trans (Up.refl _).drew⟩
  · simp only [Bool.true_and]
    cases b1
    · simp only [Bool.false_and]
      go_enter Try.func37, Try.ntmps37
      go_wp2_with fail
      generalize (w.alloc (.cells #[.map mb, .int .i64 many, .int .i64 til] 73)).alloc (.cells #[.int .i64 gr, .int .i64 ge, .int .i64 gq, .int .i64 gl] 28) = W at *
      generalize hb1 : w.heap.size + 1 = b1 at *
      generalize hb0 : w.heap.size = b0 at *
      refine region_mixH (fun w' => Up W w') [(0, true), (1, true), (2, false), (3, true), (4, true), (5, true), (6, false), (7, true), (8, true), (9, true), (10, true), (11, true), (12, true), (13, true), (14, true), (15, true), (16, true), (17, true), (18, true), (19, true), (20, true)] (by kernel_rfl) (by kernel_rfl) (Up.refl _).drew ?_
      refine mixH_take rfl (by rfl) ?_
      apply Exists.intro
      refine ⟨fun w1 hS1 => ?_, ?_⟩
      · clear hS1
        go_simp
        try rfl
      go_simp
      refine mixH_take rfl (by rfl) ?_
      apply Exists.intro
      refine ⟨fun w1 hS1 => ?_, ?_⟩
      · obtain ⟨l0, l1⟩ := And.intro (X0.out.up hS1).lt (X1.out.up hS1).lt
        have z0 := (X0.out.up hS1).cell (j := 0) rfl
        have z1 := (X0.out.up hS1).cell (j := 1) rfl
        have z2 := (X0.out.up hS1).cell (j := 2) rfl
        have y0 := (X1.out.up hS1).cell (j := 0) rfl
        have y1 := (X1.out.up hS1).cell (j := 1) rfl
        have y2 := (X1.out.up hS1).cell (j := 2) rfl
        have y3 := (X1.out.up hS1).cell (j := 3) rfl
        clear hS1
        go_simp
        try rfl
      go_simp
      refine mixH_go rfl (by rfl) (fun K hK => ?_)
      go_simp
      refine (C0.out _).mono ?_
      rintro x wz ⟨rfl, rfl⟩
      refine hK _ _ (Up.refl _).drew ?_
      clear hK K
      go_simp
      refine mixH_take rfl (by rfl) ?_
      apply Exists.intro
      refine ⟨fun w1 hS1 => ?_, ?_⟩
      · clear hS1
        go_simp
        try rfl
      go_simp
      refine mixH_take rfl (by rfl) ?_
      apply Exists.intro
      refine ⟨fun w1 hS1 => ?_, ?_⟩
      · clear hS1
        go_simp
        try rfl
      go_simp
      refine mixH_take rfl (by rfl) ?_
      apply Exists.intro
      refine ⟨fun w1 hS1 => ?_, ?_⟩
      · obtain ⟨l0, l1⟩ := And.intro (X0.out.up hS1).lt (X1.out.up hS1).lt
        have z0 := (X0.out.up hS1).cell (j := 0) rfl
        have z1 := (X0.out.up hS1).cell (j := 1) rfl
        have z2 := (X0.out.up hS1).cell (j := 2) rfl
        have y0 := (X1.out.up hS1).cell (j := 0) rfl
        have y1 := (X1.out.up hS1).cell (j := 1) rfl
        have y2 := (X1.out.up hS1).cell (j := 2) rfl
        have y3 := (X1.out.up hS1).cell (j := 3) rfl
        clear hS1
        go_simp
        try rfl
      go_simp
      refine mixH_go rfl (by rfl) (fun K hK => ?_)
      go_simp
      refine (C1.out _).mono ?_
      rintro x wz ⟨rfl, rfl⟩
      refine hK _ _ (Up.refl _).drew ?_
      clear hK K
      go_simp
      refine mixH_take rfl (by rfl) ?_
      apply Exists.intro
      refine ⟨fun w1 hS1 => ?_, ?_⟩
      · clear hS1
        go_simp
        try rfl
      go_simp
      refine mixH_take rfl (by rfl) ?_
      apply Exists.intro
      refine ⟨fun w1 hS1 => ?_, ?_⟩
      · clear hS1
        go_simp
        try rfl
      go_simp
      refine mixH_skip rfl (by rfl) ?_
      go_simp
      refine mixH_skip rfl (by rfl) ?_
      go_simp
      refine mixH_skip rfl (by rfl) ?_
      go_simp
      refine mixH_take rfl (by rfl) ?_
      apply Exists.intro
      refine ⟨fun w1 hS1 => ?_, ?_⟩
      · clear hS1
        go_simp
        try rfl
      go_simp
      refine mixH_take rfl (by rfl) ?_
      apply Exists.intro
      refine ⟨fun w1 hS1 => ?_, ?_⟩
      · clear hS1
        go_simp
        try rfl
      go_simp
      refine mixH_skip rfl (by rfl) ?_
      go_simp
      refine mixH_skip rfl (by rfl) ?_
      go_simp
      refine mixH_skip rfl (by rfl) ?_
      go_simp
      refine mixH_skip rfl (by rfl) ?_
      go_simp
      refine mixH_skip rfl (by rfl) ?_
      go_simp
      refine mixH_take rfl (by rfl) ?_
      apply Exists.intro
      refine ⟨fun w1 hS1 => ?_, ?_⟩
      · clear hS1
        go_simp
        try rfl
      go_simp
      refine mixH_take rfl (by rfl) ?_
      apply Exists.intro
      refine ⟨fun w1 hS1 => ?_, ?_⟩
      · clear hS1
        go_simp
        try rfl
      go_simp
      refine mixH_nil ?_
      go_wp2
      go_ret
      exact ⟨rfl, U.out.trans (Up.refl _).drew⟩
    · simp only [Bool.true_and]
      cases b2
      · simp only [Bool.false_and]
        go_enter Try.func37, Try.ntmps37
        go_wp2_with fail
        generalize (w.alloc (.cells #[.map mb, .int .i64 many, .int .i64 til] 73)).alloc (.cells #[.int .i64 gr, .int .i64 ge, .int .i64 gq, .int .i64 gl] 28) = W at *
        generalize hb1 : w.heap.size + 1 = b1 at *
        generalize hb0 : w.heap.size = b0 at *
        refine region_mixH (fun w' => Up W w') [(0, true), (1, true), (2, false), (3, true), (4, true), (5, true), (6, false), (7, true), (8, true), (9, true), (10, true), (11, false), (12, true), (13, true), (14, true), (15, true), (16, true), (17, true), (18, true), (19, true), (20, true)] (by kernel_rfl) (by kernel_rfl) (Up.refl _).drew ?_
        refine mixH_take rfl (by rfl) ?_
        apply Exists.intro
        refine ⟨fun w1 hS1 => ?_, ?_⟩
        · clear hS1
          go_simp
          try rfl
        go_simp
        refine mixH_take rfl (by rfl) ?_
        apply Exists.intro
        refine ⟨fun w1 hS1 => ?_, ?_⟩
        · obtain ⟨l0, l1⟩ := And.intro (X0.out.up hS1).lt (X1.out.up hS1).lt
          have z0 := (X0.out.up hS1).cell (j := 0) rfl
          have z1 := (X0.out.up hS1).cell (j := 1) rfl
          have z2 := (X0.out.up hS1).cell (j := 2) rfl
          have y0 := (X1.out.up hS1).cell (j := 0) rfl
          have y1 := (X1.out.up hS1).cell (j := 1) rfl
          have y2 := (X1.out.up hS1).cell (j := 2) rfl
          have y3 := (X1.out.up hS1).cell (j := 3) rfl
          clear hS1
          go_simp
          try rfl
        go_simp
        refine mixH_go rfl (by rfl) (fun K hK => ?_)
        go_simp
        refine (C0.out _).mono ?_
        rintro x wz ⟨rfl, rfl⟩
        refine hK _ _ (Up.refl _).drew ?_
        clear hK K
        go_simp
        refine mixH_take rfl (by rfl) ?_
        apply Exists.intro
        refine ⟨fun w1 hS1 => ?_, ?_⟩
        · clear hS1
          go_simp
          try rfl
        go_simp
        refine mixH_take rfl (by rfl) ?_
        apply Exists.intro
        refine ⟨fun w1 hS1 => ?_, ?_⟩
        · clear hS1
          go_simp
          try rfl
        go_simp
        refine mixH_take rfl (by rfl) ?_
        apply Exists.intro
        refine ⟨fun w1 hS1 => ?_, ?_⟩
        · obtain ⟨l0, l1⟩ := And.intro (X0.out.up hS1).lt (X1.out.up hS1).lt
          have z0 := (X0.out.up hS1).cell (j := 0) rfl
          have z1 := (X0.out.up hS1).cell (j := 1) rfl
          have z2 := (X0.out.up hS1).cell (j := 2) rfl
          have y0 := (X1.out.up hS1).cell (j := 0) rfl
          have y1 := (X1.out.up hS1).cell (j := 1) rfl
          have y2 := (X1.out.up hS1).cell (j := 2) rfl
          have y3 := (X1.out.up hS1).cell (j := 3) rfl
          clear hS1
          go_simp
          try rfl
        go_simp
        refine mixH_go rfl (by rfl) (fun K hK => ?_)
        go_simp
        refine (C1.out _).mono ?_
        rintro x wz ⟨rfl, rfl⟩
        refine hK _ _ (Up.refl _).drew ?_
        clear hK K
        go_simp
        refine mixH_take rfl (by rfl) ?_
        apply Exists.intro
        refine ⟨fun w1 hS1 => ?_, ?_⟩
        · clear hS1
          go_simp
          try rfl
        go_simp
        refine mixH_take rfl (by rfl) ?_
        apply Exists.intro
        refine ⟨fun w1 hS1 => ?_, ?_⟩
        · clear hS1
          go_simp
          try rfl
        go_simp
        refine mixH_take rfl (by rfl) ?_
        apply Exists.intro
        refine ⟨fun w1 hS1 => ?_, ?_⟩
        · clear hS1
          go_simp
          try rfl
        go_simp
        refine mixH_take rfl (by rfl) ?_
        apply Exists.intro
        refine ⟨fun w1 hS1 => ?_, ?_⟩
        · obtain ⟨l0, l1⟩ := And.intro (X0.out.up hS1).lt (X1.out.up hS1).lt
          have z0 := (X0.out.up hS1).cell (j := 0) rfl
          have z1 := (X0.out.up hS1).cell (j := 1) rfl
          have z2 := (X0.out.up hS1).cell (j := 2) rfl
          have y0 := (X1.out.up hS1).cell (j := 0) rfl
          have y1 := (X1.out.up hS1).cell (j := 1) rfl
          have y2 := (X1.out.up hS1).cell (j := 2) rfl
          have y3 := (X1.out.up hS1).cell (j := 3) rfl
          clear hS1
          go_simp
          try rfl
        go_simp
        refine mixH_go rfl (by rfl) (fun K hK => ?_)
        go_simp
        refine (C2.out _).mono ?_
        rintro x wz ⟨rfl, rfl⟩
        refine hK _ _ (Up.refl _).drew ?_
        clear hK K
        go_simp
        refine mixH_take rfl (by rfl) ?_
        apply Exists.intro
        refine ⟨fun w1 hS1 => ?_, ?_⟩
        · clear hS1
          go_simp
          try rfl
        go_simp
        refine mixH_take rfl (by rfl) ?_
        apply Exists.intro
        refine ⟨fun w1 hS1 => ?_, ?_⟩
        · clear hS1
          go_simp
          try rfl
        go_simp
        refine mixH_skip rfl (by rfl) ?_
        go_simp
        refine mixH_skip rfl (by rfl) ?_
        go_simp
        refine mixH_skip rfl (by rfl) ?_
        go_simp
        refine mixH_skip rfl (by rfl) ?_
        go_simp
        refine mixH_skip rfl (by rfl) ?_
        go_simp
        refine mixH_take rfl (by rfl) ?_
        apply Exists.intro
        refine ⟨fun w1 hS1 => ?_, ?_⟩
        · clear hS1
          go_simp
          try rfl
        go_simp
        refine mixH_take rfl (by rfl) ?_
        apply Exists.intro
        refine ⟨fun w1 hS1 => ?_, ?_⟩
        · clear hS1
          go_simp
          try rfl
        go_simp
        refine mixH_nil ?_
        go_wp2
        go_ret
        exact ⟨rfl, U.out.trans (Up.refl _).drew⟩
      · simp only [Bool.true_and]
        cases b3
        all_goals
          try simp only [Bool.true_and, Bool.and_true]
          go_enter Try.func37, Try.ntmps37
          go_wp2_with fail
          generalize (w.alloc (.cells #[.map mb, .int .i64 many, .int .i64 til] 73)).alloc (.cells #[.int .i64 gr, .int .i64 ge, .int .i64 gq, .int .i64 gl] 28) = W at *
          generalize hb1 : w.heap.size + 1 = b1 at *
          generalize hb0 : w.heap.size = b0 at *
          refine region_mixH (fun w' => Up W w') [(0, true), (1, true), (2, false), (3, true), (4, true), (5, true), (6, false), (7, true), (8, true), (9, true), (10, true), (11, false), (12, true), (13, true), (14, true), (15, true), (16, true), (17, false), (18, false), (19, true), (20, true)] (by kernel_rfl) (by kernel_rfl) (Up.refl _).drew ?_
          refine mixH_take rfl (by rfl) ?_
          apply Exists.intro
          refine ⟨fun w1 hS1 => ?_, ?_⟩
          · clear hS1
            go_simp
            try rfl
          go_simp
          refine mixH_take rfl (by rfl) ?_
          apply Exists.intro
          refine ⟨fun w1 hS1 => ?_, ?_⟩
          · obtain ⟨l0, l1⟩ := And.intro (X0.out.up hS1).lt (X1.out.up hS1).lt
            have z0 := (X0.out.up hS1).cell (j := 0) rfl
            have z1 := (X0.out.up hS1).cell (j := 1) rfl
            have z2 := (X0.out.up hS1).cell (j := 2) rfl
            have y0 := (X1.out.up hS1).cell (j := 0) rfl
            have y1 := (X1.out.up hS1).cell (j := 1) rfl
            have y2 := (X1.out.up hS1).cell (j := 2) rfl
            have y3 := (X1.out.up hS1).cell (j := 3) rfl
            clear hS1
            go_simp
            try rfl
          go_simp
          refine mixH_go rfl (by rfl) (fun K hK => ?_)
          go_simp
          refine (C0.out _).mono ?_
          rintro x wz ⟨rfl, rfl⟩
          refine hK _ _ (Up.refl _).drew ?_
          clear hK K
          go_simp
          refine mixH_take rfl (by rfl) ?_
          apply Exists.intro
          refine ⟨fun w1 hS1 => ?_, ?_⟩
          · clear hS1
            go_simp
            try rfl
          go_simp
          refine mixH_take rfl (by rfl) ?_
          apply Exists.intro
          refine ⟨fun w1 hS1 => ?_, ?_⟩
          · clear hS1
            go_simp
            try rfl
          go_simp
          refine mixH_take rfl (by rfl) ?_
          apply Exists.intro
          refine ⟨fun w1 hS1 => ?_, ?_⟩
          · obtain ⟨l0, l1⟩ := And.intro (X0.out.up hS1).lt (X1.out.up hS1).lt
            have z0 := (X0.out.up hS1).cell (j := 0) rfl
            have z1 := (X0.out.up hS1).cell (j := 1) rfl
            have z2 := (X0.out.up hS1).cell (j := 2) rfl
            have y0 := (X1.out.up hS1).cell (j := 0) rfl
            have y1 := (X1.out.up hS1).cell (j := 1) rfl
            have y2 := (X1.out.up hS1).cell (j := 2) rfl
            have y3 := (X1.out.up hS1).cell (j := 3) rfl
            clear hS1
            go_simp
            try rfl
          go_simp
          refine mixH_go rfl (by rfl) (fun K hK => ?_)
          go_simp
          refine (C1.out _).mono ?_
          rintro x wz ⟨rfl, rfl⟩
          refine hK _ _ (Up.refl _).drew ?_
          clear hK K
          go_simp
          refine mixH_take rfl (by rfl) ?_
          apply Exists.intro
          refine ⟨fun w1 hS1 => ?_, ?_⟩
          · clear hS1
            go_simp
            try rfl
          go_simp
          refine mixH_take rfl (by rfl) ?_
          apply Exists.intro
          refine ⟨fun w1 hS1 => ?_, ?_⟩
          · clear hS1
            go_simp
            try rfl
          go_simp
          refine mixH_take rfl (by rfl) ?_
          apply Exists.intro
          refine ⟨fun w1 hS1 => ?_, ?_⟩
          · clear hS1
            go_simp
            try rfl
          go_simp
          refine mixH_take rfl (by rfl) ?_
          apply Exists.intro
          refine ⟨fun w1 hS1 => ?_, ?_⟩
          · obtain ⟨l0, l1⟩ := And.intro (X0.out.up hS1).lt (X1.out.up hS1).lt
            have z0 := (X0.out.up hS1).cell (j := 0) rfl
            have z1 := (X0.out.up hS1).cell (j := 1) rfl
            have z2 := (X0.out.up hS1).cell (j := 2) rfl
            have y0 := (X1.out.up hS1).cell (j := 0) rfl
            have y1 := (X1.out.up hS1).cell (j := 1) rfl
            have y2 := (X1.out.up hS1).cell (j := 2) rfl
            have y3 := (X1.out.up hS1).cell (j := 3) rfl
            clear hS1
            go_simp
            try rfl
          go_simp
          refine mixH_go rfl (by rfl) (fun K hK => ?_)
          go_simp
          refine (C2.out _).mono ?_
          rintro x wz ⟨rfl, rfl⟩
          refine hK _ _ (Up.refl _).drew ?_
          clear hK K
          go_simp
          refine mixH_take rfl (by rfl) ?_
          apply Exists.intro
          refine ⟨fun w1 hS1 => ?_, ?_⟩
          · clear hS1
            go_simp
            try rfl
          go_simp
          refine mixH_take rfl (by rfl) ?_
          apply Exists.intro
          refine ⟨fun w1 hS1 => ?_, ?_⟩
          · clear hS1
            go_simp
            try rfl
          go_simp
          refine mixH_take rfl (by rfl) ?_
          apply Exists.intro
          refine ⟨fun w1 hS1 => ?_, ?_⟩
          · clear hS1
            go_simp
            try rfl
          go_simp
          refine mixH_take rfl (by rfl) ?_
          apply Exists.intro
          refine ⟨fun w1 hS1 => ?_, ?_⟩
          · obtain ⟨l0, l1⟩ := And.intro (X0.out.up hS1).lt (X1.out.up hS1).lt
            have z0 := (X0.out.up hS1).cell (j := 0) rfl
            have z1 := (X0.out.up hS1).cell (j := 1) rfl
            have z2 := (X0.out.up hS1).cell (j := 2) rfl
            have y0 := (X1.out.up hS1).cell (j := 0) rfl
            have y1 := (X1.out.up hS1).cell (j := 1) rfl
            have y2 := (X1.out.up hS1).cell (j := 2) rfl
            have y3 := (X1.out.up hS1).cell (j := 3) rfl
            clear hS1
            go_simp
            try rfl
          go_simp
          refine mixH_take rfl (by rfl) ?_
          apply Exists.intro
          refine ⟨fun w1 hS1 => ?_, ?_⟩
          · obtain ⟨l0, l1⟩ := And.intro (X0.out.up hS1).lt (X1.out.up hS1).lt
            have z0 := (X0.out.up hS1).cell (j := 0) rfl
            have z1 := (X0.out.up hS1).cell (j := 1) rfl
            have z2 := (X0.out.up hS1).cell (j := 2) rfl
            have y0 := (X1.out.up hS1).cell (j := 0) rfl
            have y1 := (X1.out.up hS1).cell (j := 1) rfl
            have y2 := (X1.out.up hS1).cell (j := 2) rfl
            have y3 := (X1.out.up hS1).cell (j := 3) rfl
            clear hS1
            go_simp
            try rfl
          go_simp
          refine mixH_go rfl (by rfl) (fun K hK => ?_)
          go_simp
          refine (CN.out _).mono ?_
          rintro x wz ⟨rfl, uA⟩
          refine hK _ _ ((Up.refl _).drew.trans uA) ?_
          clear hK K
          go_simp
          refine mixH_go rfl (by rfl) (fun K hK => ?_)
          go_simp
          refine (C3.out _).mono ?_
          rintro x wz ⟨rfl, rfl⟩
          refine hK _ _ ((Up.refl _).drew.trans uA) ?_
          clear hK K
          go_simp
          refine mixH_take rfl (by rfl) ?_
          apply Exists.intro
          refine ⟨fun w1 hS1 => ?_, ?_⟩
          · clear hS1
            go_simp
            try rfl
          go_simp
          refine mixH_take rfl (by rfl) ?_
          apply Exists.intro
          refine ⟨fun w1 hS1 => ?_, ?_⟩
          · clear hS1
            go_simp
            try rfl
          go_simp
          refine mixH_nil ?_
          go_wp2
          go_ret
          exact ⟨rfl, U.out.trans ((Up.refl _).drew.trans uA)⟩

set_option maxHeartbeats 4000000 in
theorem tokenOk_any (mb : Option Nat) (many til : Int) (g : Gk) (w : World) (h0 : 0 ≤ til ∧ til ≤ 99) (h1 : 1 ≤ many ∧ many ≤ 4) :
    Calls Try.prog 38 #[.agg #[.map mb, .int .i64 many, .int .i64 til], g.v] w fun x w' => x = .returned (.bool (gkB til many g)) ∧ Up w w' := by
  obtain ⟨ton, tr, ta, tn, tl⟩ := g
  unfold gkB Gk.v
  dsimp only
  have i1 : IntKind.i64.wrap (many - 1) = many - 1 := IntWalk.i64_in _ (by omega)
  have CN := Lib.hid (fun W => never_any mb many til W h0)
  clear h0 h1
  have C0 := Lib.hid (fun W => within_any tr 0 999 W)
  generalize inB tr 0 999 = b0 at C0 ⊢
  have C1 := Lib.hid (fun W => within_any ta 0 (many - 1) W)
  generalize inB ta 0 (many - 1) = b1 at C1 ⊢
  have C2 := Lib.hid (fun W => within_any tn (-39996) 39996 W)
  generalize inB tn (-39996) 39996 = b2 at C2 ⊢
  have C3 := Lib.hid (fun W => within_any tl 0 (til + 1) W)
  generalize inB tl 0 (til + 1) = b3 at C3 ⊢
  have X0 := Lib.hid ((Bk.new w #[.map mb, .int .i64 many, .int .i64 til] 73).alloc (.cells #[.bool ton, .int .i64 tr, .int .i64 ta, .int .i64 tn, .int .i64 tl] 32))
  have X1 := Lib.hid (Bk.new (w.alloc (.cells #[.map mb, .int .i64 many, .int .i64 til] 73)) #[.bool ton, .int .i64 tr, .int .i64 ta, .int .i64 tn, .int .i64 tl] 32)
  simp only [World.size_alloc] at X1
  have U := Lib.hid (((Up.refl w).alloc (.cells #[.map mb, .int .i64 many, .int .i64 til] 73)).alloc (.cells #[.bool ton, .int .i64 tr, .int .i64 ta, .int .i64 tn, .int .i64 tl] 32))
  cases b0
  · simp only [Bool.false_and]
    go_enter Try.func38, Try.ntmps38
    go_wp2_with fail
    generalize (w.alloc (.cells #[.map mb, .int .i64 many, .int .i64 til] 73)).alloc (.cells #[.bool ton, .int .i64 tr, .int .i64 ta, .int .i64 tn, .int .i64 tl] 32) = W at *
    generalize hb1 : w.heap.size + 1 = b1 at *
    generalize hb0 : w.heap.size = b0 at *
    refine region_mixH (fun w' => Up W w') [(0, true), (1, true), (2, false), (3, true), (4, true), (5, true), (6, true), (7, true), (8, true), (9, true), (10, true), (11, true), (12, true), (13, true), (14, true), (15, true), (16, true), (17, true), (18, true), (19, true), (20, true), (21, true), (22, true), (23, true)] (by kernel_rfl) (by kernel_rfl) (Up.refl _).drew ?_
    refine mixH_take rfl (by rfl) ?_
    apply Exists.intro
    refine ⟨fun w1 hS1 => ?_, ?_⟩
    · clear hS1
      go_simp
      try rfl
    go_simp
    refine mixH_take rfl (by rfl) ?_
    apply Exists.intro
    refine ⟨fun w1 hS1 => ?_, ?_⟩
    · obtain ⟨l0, l1⟩ := And.intro (X0.out.up hS1).lt (X1.out.up hS1).lt
      have z0 := (X0.out.up hS1).cell (j := 0) rfl
      have z1 := (X0.out.up hS1).cell (j := 1) rfl
      have z2 := (X0.out.up hS1).cell (j := 2) rfl
      have y0 := (X1.out.up hS1).cell (j := 0) rfl
      have y1 := (X1.out.up hS1).cell (j := 1) rfl
      have y2 := (X1.out.up hS1).cell (j := 2) rfl
      have y3 := (X1.out.up hS1).cell (j := 3) rfl
      have y4 := (X1.out.up hS1).cell (j := 4) rfl
      clear hS1
      go_simp
      try rfl
    go_simp
    refine mixH_go rfl (by rfl) (fun K hK => ?_)
    go_simp
    refine (C0.out _).mono ?_
    rintro x wz ⟨rfl, rfl⟩
    refine hK _ _ (Up.refl _).drew ?_
    clear hK K
    go_simp
    refine mixH_take rfl (by rfl) ?_
    apply Exists.intro
    refine ⟨fun w1 hS1 => ?_, ?_⟩
    · clear hS1
      go_simp
      try rfl
    go_simp
    refine mixH_skip rfl (by rfl) ?_
    go_simp
    refine mixH_skip rfl (by rfl) ?_
    go_simp
    refine mixH_skip rfl (by rfl) ?_
    go_simp
    refine mixH_skip rfl (by rfl) ?_
    go_simp
    refine mixH_skip rfl (by rfl) ?_
    go_simp
    refine mixH_skip rfl (by rfl) ?_
    go_simp
    refine mixH_take rfl (by rfl) ?_
    apply Exists.intro
    refine ⟨fun w1 hS1 => ?_, ?_⟩
    · clear hS1
      go_simp
      try rfl
    go_simp
    refine mixH_take rfl (by rfl) ?_
    apply Exists.intro
    refine ⟨fun w1 hS1 => ?_, ?_⟩
    · clear hS1
      go_simp
      try rfl
    go_simp
    refine mixH_skip rfl (by rfl) ?_
    go_simp
    refine mixH_skip rfl (by rfl) ?_
    go_simp
    refine mixH_skip rfl (by rfl) ?_
    go_simp
    refine mixH_take rfl (by rfl) ?_
    apply Exists.intro
    refine ⟨fun w1 hS1 => ?_, ?_⟩
    · clear hS1
      go_simp
      try rfl
    go_simp
    refine mixH_take rfl (by rfl) ?_
    apply Exists.intro
    refine ⟨fun w1 hS1 => ?_, ?_⟩
    · clear hS1
      go_simp
      try rfl
    go_simp
    refine mixH_skip rfl (by rfl) ?_
    go_simp
    refine mixH_skip rfl (by rfl) ?_
    go_simp
    refine mixH_skip rfl (by rfl) ?_
    go_simp
    refine mixH_skip rfl (by rfl) ?_
    go_simp
    refine mixH_skip rfl (by rfl) ?_
    go_simp
    refine mixH_take rfl (by rfl) ?_
    apply Exists.intro
    refine ⟨fun w1 hS1 => ?_, ?_⟩
    · clear hS1
      go_simp
      try rfl
    go_simp
    refine mixH_take rfl (by rfl) ?_
    apply Exists.intro
    refine ⟨fun w1 hS1 => ?_, ?_⟩
    · clear hS1
      go_simp
      try rfl
    go_simp
    refine mixH_nil ?_
    go_wp2
    go_ret
    exact ⟨rfl, U.out.trans (Up.refl _).drew⟩
  · simp only [Bool.true_and]
    cases b1
    · simp only [Bool.false_and]
      go_enter Try.func38, Try.ntmps38
      go_wp2_with fail
      generalize (w.alloc (.cells #[.map mb, .int .i64 many, .int .i64 til] 73)).alloc (.cells #[.bool ton, .int .i64 tr, .int .i64 ta, .int .i64 tn, .int .i64 tl] 32) = W at *
      generalize hb1 : w.heap.size + 1 = b1 at *
      generalize hb0 : w.heap.size = b0 at *
      refine region_mixH (fun w' => Up W w') [(0, true), (1, true), (2, false), (3, true), (4, true), (5, true), (6, true), (7, true), (8, true), (9, false), (10, true), (11, true), (12, true), (13, true), (14, true), (15, true), (16, true), (17, true), (18, true), (19, true), (20, true), (21, true), (22, true), (23, true)] (by kernel_rfl) (by kernel_rfl) (Up.refl _).drew ?_
      refine mixH_take rfl (by rfl) ?_
      apply Exists.intro
      refine ⟨fun w1 hS1 => ?_, ?_⟩
      · clear hS1
        go_simp
        try rfl
      go_simp
      refine mixH_take rfl (by rfl) ?_
      apply Exists.intro
      refine ⟨fun w1 hS1 => ?_, ?_⟩
      · obtain ⟨l0, l1⟩ := And.intro (X0.out.up hS1).lt (X1.out.up hS1).lt
        have z0 := (X0.out.up hS1).cell (j := 0) rfl
        have z1 := (X0.out.up hS1).cell (j := 1) rfl
        have z2 := (X0.out.up hS1).cell (j := 2) rfl
        have y0 := (X1.out.up hS1).cell (j := 0) rfl
        have y1 := (X1.out.up hS1).cell (j := 1) rfl
        have y2 := (X1.out.up hS1).cell (j := 2) rfl
        have y3 := (X1.out.up hS1).cell (j := 3) rfl
        have y4 := (X1.out.up hS1).cell (j := 4) rfl
        clear hS1
        go_simp
        try rfl
      go_simp
      refine mixH_go rfl (by rfl) (fun K hK => ?_)
      go_simp
      refine (C0.out _).mono ?_
      rintro x wz ⟨rfl, rfl⟩
      refine hK _ _ (Up.refl _).drew ?_
      clear hK K
      go_simp
      refine mixH_take rfl (by rfl) ?_
      apply Exists.intro
      refine ⟨fun w1 hS1 => ?_, ?_⟩
      · clear hS1
        go_simp
        try rfl
      go_simp
      refine mixH_take rfl (by rfl) ?_
      apply Exists.intro
      refine ⟨fun w1 hS1 => ?_, ?_⟩
      · clear hS1
        go_simp
        try rfl
      go_simp
      refine mixH_take rfl (by rfl) ?_
      apply Exists.intro
      refine ⟨fun w1 hS1 => ?_, ?_⟩
      · obtain ⟨l0, l1⟩ := And.intro (X0.out.up hS1).lt (X1.out.up hS1).lt
        have z0 := (X0.out.up hS1).cell (j := 0) rfl
        have z1 := (X0.out.up hS1).cell (j := 1) rfl
        have z2 := (X0.out.up hS1).cell (j := 2) rfl
        have y0 := (X1.out.up hS1).cell (j := 0) rfl
        have y1 := (X1.out.up hS1).cell (j := 1) rfl
        have y2 := (X1.out.up hS1).cell (j := 2) rfl
        have y3 := (X1.out.up hS1).cell (j := 3) rfl
        have y4 := (X1.out.up hS1).cell (j := 4) rfl
        clear hS1
        go_simp
        try rfl
      go_simp
      refine mixH_take rfl (by rfl) ?_
      apply Exists.intro
      refine ⟨fun w1 hS1 => ?_, ?_⟩
      · clear hS1
        go_simp
        try rfl
      go_simp
      refine mixH_take rfl (by rfl) ?_
      apply Exists.intro
      refine ⟨fun w1 hS1 => ?_, ?_⟩
      · obtain ⟨l0, l1⟩ := And.intro (X0.out.up hS1).lt (X1.out.up hS1).lt
        have z0 := (X0.out.up hS1).cell (j := 0) rfl
        have z1 := (X0.out.up hS1).cell (j := 1) rfl
        have z2 := (X0.out.up hS1).cell (j := 2) rfl
        have y0 := (X1.out.up hS1).cell (j := 0) rfl
        have y1 := (X1.out.up hS1).cell (j := 1) rfl
        have y2 := (X1.out.up hS1).cell (j := 2) rfl
        have y3 := (X1.out.up hS1).cell (j := 3) rfl
        have y4 := (X1.out.up hS1).cell (j := 4) rfl
        clear hS1
        go_simp
        try rfl
      go_simp
      refine mixH_take rfl (by rfl) ?_
      apply Exists.intro
      refine ⟨fun w1 hS1 => ?_, ?_⟩
      · clear hS1
        go_simp
        try rfl
      go_simp
      refine mixH_go rfl (by rfl) (fun K hK => ?_)
      go_simp
      refine (C1.out _).mono ?_
      rintro x wz ⟨rfl, rfl⟩
      refine hK _ _ (Up.refl _).drew ?_
      clear hK K
      go_simp
      refine mixH_take rfl (by rfl) ?_
      apply Exists.intro
      refine ⟨fun w1 hS1 => ?_, ?_⟩
      · clear hS1
        go_simp
        try rfl
      go_simp
      refine mixH_take rfl (by rfl) ?_
      apply Exists.intro
      refine ⟨fun w1 hS1 => ?_, ?_⟩
      · clear hS1
        go_simp
        try rfl
      go_simp
      refine mixH_skip rfl (by rfl) ?_
      go_simp
      refine mixH_skip rfl (by rfl) ?_
      go_simp
      refine mixH_skip rfl (by rfl) ?_
      go_simp
      refine mixH_take rfl (by rfl) ?_
      apply Exists.intro
      refine ⟨fun w1 hS1 => ?_, ?_⟩
      · clear hS1
        go_simp
        try rfl
      go_simp
      refine mixH_take rfl (by rfl) ?_
      apply Exists.intro
      refine ⟨fun w1 hS1 => ?_, ?_⟩
      · clear hS1
        go_simp
        try rfl
      go_simp
      refine mixH_skip rfl (by rfl) ?_
      go_simp
      refine mixH_skip rfl (by rfl) ?_
      go_simp
      refine mixH_skip rfl (by rfl) ?_
      go_simp
      refine mixH_skip rfl (by rfl) ?_
      go_simp
      refine mixH_skip rfl (by rfl) ?_
      go_simp
      refine mixH_take rfl (by rfl) ?_
      apply Exists.intro
      refine ⟨fun w1 hS1 => ?_, ?_⟩
      · clear hS1
        go_simp
        try rfl
      go_simp
      refine mixH_take rfl (by rfl) ?_
      apply Exists.intro
      refine ⟨fun w1 hS1 => ?_, ?_⟩
      · clear hS1
        go_simp
        try rfl
      go_simp
      refine mixH_nil ?_
      go_wp2
      go_ret
      exact ⟨rfl, U.out.trans (Up.refl _).drew⟩
    · simp only [Bool.true_and]
      cases b2
      · simp only [Bool.false_and]
        go_enter Try.func38, Try.ntmps38
        go_wp2_with fail
        generalize (w.alloc (.cells #[.map mb, .int .i64 many, .int .i64 til] 73)).alloc (.cells #[.bool ton, .int .i64 tr, .int .i64 ta, .int .i64 tn, .int .i64 tl] 32) = W at *
        generalize hb1 : w.heap.size + 1 = b1 at *
        generalize hb0 : w.heap.size = b0 at *
        refine region_mixH (fun w' => Up W w') [(0, true), (1, true), (2, false), (3, true), (4, true), (5, true), (6, true), (7, true), (8, true), (9, false), (10, true), (11, true), (12, true), (13, true), (14, false), (15, true), (16, true), (17, true), (18, true), (19, true), (20, true), (21, true), (22, true), (23, true)] (by kernel_rfl) (by kernel_rfl) (Up.refl _).drew ?_
        refine mixH_take rfl (by rfl) ?_
        apply Exists.intro
        refine ⟨fun w1 hS1 => ?_, ?_⟩
        · clear hS1
          go_simp
          try rfl
        go_simp
        refine mixH_take rfl (by rfl) ?_
        apply Exists.intro
        refine ⟨fun w1 hS1 => ?_, ?_⟩
        · obtain ⟨l0, l1⟩ := And.intro (X0.out.up hS1).lt (X1.out.up hS1).lt
          have z0 := (X0.out.up hS1).cell (j := 0) rfl
          have z1 := (X0.out.up hS1).cell (j := 1) rfl
          have z2 := (X0.out.up hS1).cell (j := 2) rfl
          have y0 := (X1.out.up hS1).cell (j := 0) rfl
          have y1 := (X1.out.up hS1).cell (j := 1) rfl
          have y2 := (X1.out.up hS1).cell (j := 2) rfl
          have y3 := (X1.out.up hS1).cell (j := 3) rfl
          have y4 := (X1.out.up hS1).cell (j := 4) rfl
          clear hS1
          go_simp
          try rfl
        go_simp
        refine mixH_go rfl (by rfl) (fun K hK => ?_)
        go_simp
        refine (C0.out _).mono ?_
        rintro x wz ⟨rfl, rfl⟩
        refine hK _ _ (Up.refl _).drew ?_
        clear hK K
        go_simp
        refine mixH_take rfl (by rfl) ?_
        apply Exists.intro
        refine ⟨fun w1 hS1 => ?_, ?_⟩
        · clear hS1
          go_simp
          try rfl
        go_simp
        refine mixH_take rfl (by rfl) ?_
        apply Exists.intro
        refine ⟨fun w1 hS1 => ?_, ?_⟩
        · clear hS1
          go_simp
          try rfl
        go_simp
        refine mixH_take rfl (by rfl) ?_
        apply Exists.intro
        refine ⟨fun w1 hS1 => ?_, ?_⟩
        · obtain ⟨l0, l1⟩ := And.intro (X0.out.up hS1).lt (X1.out.up hS1).lt
          have z0 := (X0.out.up hS1).cell (j := 0) rfl
          have z1 := (X0.out.up hS1).cell (j := 1) rfl
          have z2 := (X0.out.up hS1).cell (j := 2) rfl
          have y0 := (X1.out.up hS1).cell (j := 0) rfl
          have y1 := (X1.out.up hS1).cell (j := 1) rfl
          have y2 := (X1.out.up hS1).cell (j := 2) rfl
          have y3 := (X1.out.up hS1).cell (j := 3) rfl
          have y4 := (X1.out.up hS1).cell (j := 4) rfl
          clear hS1
          go_simp
          try rfl
        go_simp
        refine mixH_take rfl (by rfl) ?_
        apply Exists.intro
        refine ⟨fun w1 hS1 => ?_, ?_⟩
        · clear hS1
          go_simp
          try rfl
        go_simp
        refine mixH_take rfl (by rfl) ?_
        apply Exists.intro
        refine ⟨fun w1 hS1 => ?_, ?_⟩
        · obtain ⟨l0, l1⟩ := And.intro (X0.out.up hS1).lt (X1.out.up hS1).lt
          have z0 := (X0.out.up hS1).cell (j := 0) rfl
          have z1 := (X0.out.up hS1).cell (j := 1) rfl
          have z2 := (X0.out.up hS1).cell (j := 2) rfl
          have y0 := (X1.out.up hS1).cell (j := 0) rfl
          have y1 := (X1.out.up hS1).cell (j := 1) rfl
          have y2 := (X1.out.up hS1).cell (j := 2) rfl
          have y3 := (X1.out.up hS1).cell (j := 3) rfl
          have y4 := (X1.out.up hS1).cell (j := 4) rfl
          clear hS1
          go_simp
          try rfl
        go_simp
        refine mixH_take rfl (by rfl) ?_
        apply Exists.intro
        refine ⟨fun w1 hS1 => ?_, ?_⟩
        · clear hS1
          go_simp
          try rfl
        go_simp
        refine mixH_go rfl (by rfl) (fun K hK => ?_)
        go_simp
        refine (C1.out _).mono ?_
        rintro x wz ⟨rfl, rfl⟩
        refine hK _ _ (Up.refl _).drew ?_
        clear hK K
        go_simp
        refine mixH_take rfl (by rfl) ?_
        apply Exists.intro
        refine ⟨fun w1 hS1 => ?_, ?_⟩
        · clear hS1
          go_simp
          try rfl
        go_simp
        refine mixH_take rfl (by rfl) ?_
        apply Exists.intro
        refine ⟨fun w1 hS1 => ?_, ?_⟩
        · clear hS1
          go_simp
          try rfl
        go_simp
        refine mixH_take rfl (by rfl) ?_
        apply Exists.intro
        refine ⟨fun w1 hS1 => ?_, ?_⟩
        · clear hS1
          go_simp
          try rfl
        go_simp
        refine mixH_take rfl (by rfl) ?_
        apply Exists.intro
        refine ⟨fun w1 hS1 => ?_, ?_⟩
        · obtain ⟨l0, l1⟩ := And.intro (X0.out.up hS1).lt (X1.out.up hS1).lt
          have z0 := (X0.out.up hS1).cell (j := 0) rfl
          have z1 := (X0.out.up hS1).cell (j := 1) rfl
          have z2 := (X0.out.up hS1).cell (j := 2) rfl
          have y0 := (X1.out.up hS1).cell (j := 0) rfl
          have y1 := (X1.out.up hS1).cell (j := 1) rfl
          have y2 := (X1.out.up hS1).cell (j := 2) rfl
          have y3 := (X1.out.up hS1).cell (j := 3) rfl
          have y4 := (X1.out.up hS1).cell (j := 4) rfl
          clear hS1
          go_simp
          try rfl
        go_simp
        refine mixH_go rfl (by rfl) (fun K hK => ?_)
        go_simp
        refine (C2.out _).mono ?_
        rintro x wz ⟨rfl, rfl⟩
        refine hK _ _ (Up.refl _).drew ?_
        clear hK K
        go_simp
        refine mixH_take rfl (by rfl) ?_
        apply Exists.intro
        refine ⟨fun w1 hS1 => ?_, ?_⟩
        · clear hS1
          go_simp
          try rfl
        go_simp
        refine mixH_take rfl (by rfl) ?_
        apply Exists.intro
        refine ⟨fun w1 hS1 => ?_, ?_⟩
        · clear hS1
          go_simp
          try rfl
        go_simp
        refine mixH_skip rfl (by rfl) ?_
        go_simp
        refine mixH_skip rfl (by rfl) ?_
        go_simp
        refine mixH_skip rfl (by rfl) ?_
        go_simp
        refine mixH_skip rfl (by rfl) ?_
        go_simp
        refine mixH_skip rfl (by rfl) ?_
        go_simp
        refine mixH_take rfl (by rfl) ?_
        apply Exists.intro
        refine ⟨fun w1 hS1 => ?_, ?_⟩
        · clear hS1
          go_simp
          try rfl
        go_simp
        refine mixH_take rfl (by rfl) ?_
        apply Exists.intro
        refine ⟨fun w1 hS1 => ?_, ?_⟩
        · clear hS1
          go_simp
          try rfl
        go_simp
        refine mixH_nil ?_
        go_wp2
        go_ret
        exact ⟨rfl, U.out.trans (Up.refl _).drew⟩
      · simp only [Bool.true_and]
        cases b3
        all_goals
          try simp only [Bool.true_and, Bool.and_true]
          go_enter Try.func38, Try.ntmps38
          go_wp2_with fail
          generalize (w.alloc (.cells #[.map mb, .int .i64 many, .int .i64 til] 73)).alloc (.cells #[.bool ton, .int .i64 tr, .int .i64 ta, .int .i64 tn, .int .i64 tl] 32) = W at *
          generalize hb1 : w.heap.size + 1 = b1 at *
          generalize hb0 : w.heap.size = b0 at *
          refine region_mixH (fun w' => Up W w') [(0, true), (1, true), (2, false), (3, true), (4, true), (5, true), (6, true), (7, true), (8, true), (9, false), (10, true), (11, true), (12, true), (13, true), (14, false), (15, true), (16, true), (17, true), (18, true), (19, true), (20, false), (21, false), (22, true), (23, true)] (by kernel_rfl) (by kernel_rfl) (Up.refl _).drew ?_
          refine mixH_take rfl (by rfl) ?_
          apply Exists.intro
          refine ⟨fun w1 hS1 => ?_, ?_⟩
          · clear hS1
            go_simp
            try rfl
          go_simp
          refine mixH_take rfl (by rfl) ?_
          apply Exists.intro
          refine ⟨fun w1 hS1 => ?_, ?_⟩
          · obtain ⟨l0, l1⟩ := And.intro (X0.out.up hS1).lt (X1.out.up hS1).lt
            have z0 := (X0.out.up hS1).cell (j := 0) rfl
            have z1 := (X0.out.up hS1).cell (j := 1) rfl
            have z2 := (X0.out.up hS1).cell (j := 2) rfl
            have y0 := (X1.out.up hS1).cell (j := 0) rfl
            have y1 := (X1.out.up hS1).cell (j := 1) rfl
            have y2 := (X1.out.up hS1).cell (j := 2) rfl
            have y3 := (X1.out.up hS1).cell (j := 3) rfl
            have y4 := (X1.out.up hS1).cell (j := 4) rfl
            clear hS1
            go_simp
            try rfl
          go_simp
          refine mixH_go rfl (by rfl) (fun K hK => ?_)
          go_simp
          refine (C0.out _).mono ?_
          rintro x wz ⟨rfl, rfl⟩
          refine hK _ _ (Up.refl _).drew ?_
          clear hK K
          go_simp
          refine mixH_take rfl (by rfl) ?_
          apply Exists.intro
          refine ⟨fun w1 hS1 => ?_, ?_⟩
          · clear hS1
            go_simp
            try rfl
          go_simp
          refine mixH_take rfl (by rfl) ?_
          apply Exists.intro
          refine ⟨fun w1 hS1 => ?_, ?_⟩
          · clear hS1
            go_simp
            try rfl
          go_simp
          refine mixH_take rfl (by rfl) ?_
          apply Exists.intro
          refine ⟨fun w1 hS1 => ?_, ?_⟩
          · obtain ⟨l0, l1⟩ := And.intro (X0.out.up hS1).lt (X1.out.up hS1).lt
            have z0 := (X0.out.up hS1).cell (j := 0) rfl
            have z1 := (X0.out.up hS1).cell (j := 1) rfl
            have z2 := (X0.out.up hS1).cell (j := 2) rfl
            have y0 := (X1.out.up hS1).cell (j := 0) rfl
            have y1 := (X1.out.up hS1).cell (j := 1) rfl
            have y2 := (X1.out.up hS1).cell (j := 2) rfl
            have y3 := (X1.out.up hS1).cell (j := 3) rfl
            have y4 := (X1.out.up hS1).cell (j := 4) rfl
            clear hS1
            go_simp
            try rfl
          go_simp
          refine mixH_take rfl (by rfl) ?_
          apply Exists.intro
          refine ⟨fun w1 hS1 => ?_, ?_⟩
          · clear hS1
            go_simp
            try rfl
          go_simp
          refine mixH_take rfl (by rfl) ?_
          apply Exists.intro
          refine ⟨fun w1 hS1 => ?_, ?_⟩
          · obtain ⟨l0, l1⟩ := And.intro (X0.out.up hS1).lt (X1.out.up hS1).lt
            have z0 := (X0.out.up hS1).cell (j := 0) rfl
            have z1 := (X0.out.up hS1).cell (j := 1) rfl
            have z2 := (X0.out.up hS1).cell (j := 2) rfl
            have y0 := (X1.out.up hS1).cell (j := 0) rfl
            have y1 := (X1.out.up hS1).cell (j := 1) rfl
            have y2 := (X1.out.up hS1).cell (j := 2) rfl
            have y3 := (X1.out.up hS1).cell (j := 3) rfl
            have y4 := (X1.out.up hS1).cell (j := 4) rfl
            clear hS1
            go_simp
            try rfl
          go_simp
          refine mixH_take rfl (by rfl) ?_
          apply Exists.intro
          refine ⟨fun w1 hS1 => ?_, ?_⟩
          · clear hS1
            go_simp
            try rfl
          go_simp
          refine mixH_go rfl (by rfl) (fun K hK => ?_)
          go_simp
          refine (C1.out _).mono ?_
          rintro x wz ⟨rfl, rfl⟩
          refine hK _ _ (Up.refl _).drew ?_
          clear hK K
          go_simp
          refine mixH_take rfl (by rfl) ?_
          apply Exists.intro
          refine ⟨fun w1 hS1 => ?_, ?_⟩
          · clear hS1
            go_simp
            try rfl
          go_simp
          refine mixH_take rfl (by rfl) ?_
          apply Exists.intro
          refine ⟨fun w1 hS1 => ?_, ?_⟩
          · clear hS1
            go_simp
            try rfl
          go_simp
          refine mixH_take rfl (by rfl) ?_
          apply Exists.intro
          refine ⟨fun w1 hS1 => ?_, ?_⟩
          · clear hS1
            go_simp
            try rfl
          go_simp
          refine mixH_take rfl (by rfl) ?_
          apply Exists.intro
          refine ⟨fun w1 hS1 => ?_, ?_⟩
          · obtain ⟨l0, l1⟩ := And.intro (X0.out.up hS1).lt (X1.out.up hS1).lt
            have z0 := (X0.out.up hS1).cell (j := 0) rfl
            have z1 := (X0.out.up hS1).cell (j := 1) rfl
            have z2 := (X0.out.up hS1).cell (j := 2) rfl
            have y0 := (X1.out.up hS1).cell (j := 0) rfl
            have y1 := (X1.out.up hS1).cell (j := 1) rfl
            have y2 := (X1.out.up hS1).cell (j := 2) rfl
            have y3 := (X1.out.up hS1).cell (j := 3) rfl
            have y4 := (X1.out.up hS1).cell (j := 4) rfl
            clear hS1
            go_simp
            try rfl
          go_simp
          refine mixH_go rfl (by rfl) (fun K hK => ?_)
          go_simp
          refine (C2.out _).mono ?_
          rintro x wz ⟨rfl, rfl⟩
          refine hK _ _ (Up.refl _).drew ?_
          clear hK K
          go_simp
          refine mixH_take rfl (by rfl) ?_
          apply Exists.intro
          refine ⟨fun w1 hS1 => ?_, ?_⟩
          · clear hS1
            go_simp
            try rfl
          go_simp
          refine mixH_take rfl (by rfl) ?_
          apply Exists.intro
          refine ⟨fun w1 hS1 => ?_, ?_⟩
          · clear hS1
            go_simp
            try rfl
          go_simp
          refine mixH_take rfl (by rfl) ?_
          apply Exists.intro
          refine ⟨fun w1 hS1 => ?_, ?_⟩
          · clear hS1
            go_simp
            try rfl
          go_simp
          refine mixH_take rfl (by rfl) ?_
          apply Exists.intro
          refine ⟨fun w1 hS1 => ?_, ?_⟩
          · obtain ⟨l0, l1⟩ := And.intro (X0.out.up hS1).lt (X1.out.up hS1).lt
            have z0 := (X0.out.up hS1).cell (j := 0) rfl
            have z1 := (X0.out.up hS1).cell (j := 1) rfl
            have z2 := (X0.out.up hS1).cell (j := 2) rfl
            have y0 := (X1.out.up hS1).cell (j := 0) rfl
            have y1 := (X1.out.up hS1).cell (j := 1) rfl
            have y2 := (X1.out.up hS1).cell (j := 2) rfl
            have y3 := (X1.out.up hS1).cell (j := 3) rfl
            have y4 := (X1.out.up hS1).cell (j := 4) rfl
            clear hS1
            go_simp
            try rfl
          go_simp
          refine mixH_take rfl (by rfl) ?_
          apply Exists.intro
          refine ⟨fun w1 hS1 => ?_, ?_⟩
          · obtain ⟨l0, l1⟩ := And.intro (X0.out.up hS1).lt (X1.out.up hS1).lt
            have z0 := (X0.out.up hS1).cell (j := 0) rfl
            have z1 := (X0.out.up hS1).cell (j := 1) rfl
            have z2 := (X0.out.up hS1).cell (j := 2) rfl
            have y0 := (X1.out.up hS1).cell (j := 0) rfl
            have y1 := (X1.out.up hS1).cell (j := 1) rfl
            have y2 := (X1.out.up hS1).cell (j := 2) rfl
            have y3 := (X1.out.up hS1).cell (j := 3) rfl
            have y4 := (X1.out.up hS1).cell (j := 4) rfl
            clear hS1
            go_simp
            try rfl
          go_simp
          refine mixH_go rfl (by rfl) (fun K hK => ?_)
          go_simp
          refine (CN.out _).mono ?_
          rintro x wz ⟨rfl, uA⟩
          refine hK _ _ ((Up.refl _).drew.trans uA) ?_
          clear hK K
          go_simp
          refine mixH_go rfl (by rfl) (fun K hK => ?_)
          go_simp
          refine (C3.out _).mono ?_
          rintro x wz ⟨rfl, rfl⟩
          refine hK _ _ ((Up.refl _).drew.trans uA) ?_
          clear hK K
          go_simp
          refine mixH_take rfl (by rfl) ?_
          apply Exists.intro
          refine ⟨fun w1 hS1 => ?_, ?_⟩
          · clear hS1
            go_simp
            try rfl
          go_simp
          refine mixH_take rfl (by rfl) ?_
          apply Exists.intro
          refine ⟨fun w1 hS1 => ?_, ?_⟩
          · clear hS1
            go_simp
            try rfl
          go_simp
          refine mixH_nil ?_
          go_wp2
          go_ret
          exact ⟨rfl, U.out.trans ((Up.refl _).drew.trans uA)⟩

set_option maxHeartbeats 4000000 in
theorem implMrk_any (A : Option Addr) (n c : Nat) (B : Option Addr) (k d : Nat) (m : Mdl) (g : Gm) (w : World) (hM : MdlV w A n B k m) :
    Calls Try.prog 11 #[.agg #[.slice A n c, .slice B k d, .int .i64 m.til], g.v] w fun x w' => x = .returned (.bool (mdlB m && gmB m.til g)) ∧ Up w w' := by
  have CM := Lib.hid (fun W (u : Up w W) => newMachine_any A n c B k d m W (hM.up u))
  have CF := Lib.hid (fun mp W (h : mdlB m = true) => markOk_any mp m.rules.length m.til g W (mdlB_til h) (by have := mdlB_few h; omega))
  obtain ⟨res, hr⟩ : ∃ r, r = (mdlB m && gmB m.til g) := ⟨_, rfl⟩
  rw [← hr]
  have RB := Lib.hid hr
  clear hr
  generalize gmB m.til g = q at RB CF
  obtain ⟨gr, ge, gq, gl⟩ := g
  unfold Gm.v at CF ⊢
  dsimp only at CF ⊢
  have B1 := Bk.new (w.alloc (.cells #[.slice A n c, .slice B k d, .int .i64 m.til] 26)) #[.int .i64 gr, .int .i64 ge, .int .i64 gq, .int .i64 gl] 28
  simp only [World.size_alloc] at B1
  have U0 := Lib.hid (((Up.refl w).alloc (.cells #[.slice A n c, .slice B k d, .int .i64 m.til] 26)).alloc (.cells #[.int .i64 gr, .int .i64 ge, .int .i64 gq, .int .i64 gl] 28))
  have B1 := Lib.hid B1
  clear hM
  unfold MachPost at CM
  go_enter Try.func11, Try.ntmps11
  go_wp2_with fail
  generalize (w.alloc (.cells #[.slice A n c, .slice B k d, .int .i64 m.til] 26)).alloc (.cells #[.int .i64 gr, .int .i64 ge, .int .i64 gq, .int .i64 gl] 28) = W at *
  generalize hb1 : w.heap.size + 1 = b1 at *
  clear hb1
  refine (CM.out _ U0.out).mono ?_
  rintro x w1 ⟨u1, h⟩
  have U1 := Lib.hid (U0.out.trans u1)
  have B1 := Lib.hid (B1.out.up u1)
  clear u1 CM
  rcases h with ⟨hm, rfl⟩ | ⟨hm, b, rfl, _, _⟩
  · have RT := Lib.hid (show res = false by rw [RB.out, hm]; rfl)
    have UE := Lib.hid (U1.out.alloc (.cells #[.map none, .int .i64 0, .int .i64 0] 73))
    clear hm RB
    go_wp2
    go_ret
    exact ⟨ret_bool (by rw [RT.out]), UE.out⟩
  · have RT := Lib.hid (show res = q by rw [RB.out, hm]; rfl)
    have CF := Lib.hid (fun mp W => CF.out mp W hm)
    have ua := (Up.refl w1).alloc (.cells #[.map (some b), .int .i64 m.rules.length, .int .i64 m.til] 73)
    have B1 := Lib.hid (B1.out.up ua)
    have U1 := Lib.hid (U1.out.trans ua)
    have p0 := B1.out.cell (j := 0) rfl
    have p1 := B1.out.cell (j := 1) rfl
    have p2 := B1.out.cell (j := 2) rfl
    have p3 := B1.out.cell (j := 3) rfl
    have l1 := B1.out.lt
    clear hm RB ua
    go_wp2_with fail
    refine (CF.out (some b) _).mono ?_
    rintro x w2 ⟨rfl, u2⟩
    have UE := Lib.hid (U1.out.trans u2)
    clear u2
    go_wp2
    go_ret
    exact ⟨ret_bool (by rw [RT.out]), UE.out⟩

set_option maxHeartbeats 4000000 in
theorem implTok_any (A : Option Addr) (n c : Nat) (B : Option Addr) (k d : Nat) (m : Mdl) (g : Gk) (w : World) (hM : MdlV w A n B k m) :
    Calls Try.prog 12 #[.agg #[.slice A n c, .slice B k d, .int .i64 m.til], g.v] w fun x w' => x = .returned (.bool (mdlB m && gkB m.til m.rules.length g)) ∧ Up w w' := by
  have CM := Lib.hid (fun W (u : Up w W) => newMachine_any A n c B k d m W (hM.up u))
  have CF := Lib.hid (fun mp W (h : mdlB m = true) => tokenOk_any mp m.rules.length m.til g W (mdlB_til h) (by have := mdlB_few h; omega))
  obtain ⟨res, hr⟩ : ∃ r, r = (mdlB m && gkB m.til m.rules.length g) := ⟨_, rfl⟩
  rw [← hr]
  have RB := Lib.hid hr
  clear hr
  generalize gkB m.til m.rules.length g = q at RB CF
  obtain ⟨ton, tr, ta, tn, tl⟩ := g
  unfold Gk.v at CF ⊢
  dsimp only at CF ⊢
  have B1 := Bk.new (w.alloc (.cells #[.slice A n c, .slice B k d, .int .i64 m.til] 26)) #[.bool ton, .int .i64 tr, .int .i64 ta, .int .i64 tn, .int .i64 tl] 32
  simp only [World.size_alloc] at B1
  have U0 := Lib.hid (((Up.refl w).alloc (.cells #[.slice A n c, .slice B k d, .int .i64 m.til] 26)).alloc (.cells #[.bool ton, .int .i64 tr, .int .i64 ta, .int .i64 tn, .int .i64 tl] 32))
  have B1 := Lib.hid B1
  clear hM
  unfold MachPost at CM
  go_enter Try.func12, Try.ntmps12
  go_wp2_with fail
  generalize (w.alloc (.cells #[.slice A n c, .slice B k d, .int .i64 m.til] 26)).alloc (.cells #[.bool ton, .int .i64 tr, .int .i64 ta, .int .i64 tn, .int .i64 tl] 32) = W at *
  generalize hb1 : w.heap.size + 1 = b1 at *
  clear hb1
  refine (CM.out _ U0.out).mono ?_
  rintro x w1 ⟨u1, h⟩
  have U1 := Lib.hid (U0.out.trans u1)
  have B1 := Lib.hid (B1.out.up u1)
  clear u1 CM
  rcases h with ⟨hm, rfl⟩ | ⟨hm, b, rfl, _, _⟩
  · have RT := Lib.hid (show res = false by rw [RB.out, hm]; rfl)
    have UE := Lib.hid (U1.out.alloc (.cells #[.map none, .int .i64 0, .int .i64 0] 73))
    clear hm RB
    go_wp2
    go_ret
    exact ⟨ret_bool (by rw [RT.out]), UE.out⟩
  · have RT := Lib.hid (show res = q by rw [RB.out, hm]; rfl)
    have CF := Lib.hid (fun mp W => CF.out mp W hm)
    have ua := (Up.refl w1).alloc (.cells #[.map (some b), .int .i64 m.rules.length, .int .i64 m.til] 73)
    have B1 := Lib.hid (B1.out.up ua)
    have U1 := Lib.hid (U1.out.trans ua)
    have p0 := B1.out.cell (j := 0) rfl
    have p1 := B1.out.cell (j := 1) rfl
    have p2 := B1.out.cell (j := 2) rfl
    have p3 := B1.out.cell (j := 3) rfl
    have p4 := B1.out.cell (j := 4) rfl
    have l1 := B1.out.lt
    clear hm RB ua
    go_wp2_with fail
    refine (CF.out (some b) _).mono ?_
    rintro x w2 ⟨rfl, u2⟩
    have UE := Lib.hid (U1.out.trans u2)
    clear u2
    go_wp2
    go_ret
    exact ⟨ret_bool (by rw [RT.out]), UE.out⟩

end Go.Proofs.Ytojnphchkdjafaa

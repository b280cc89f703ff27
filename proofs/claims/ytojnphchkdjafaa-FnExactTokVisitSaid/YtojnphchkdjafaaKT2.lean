/-
  What impl.MrkOk and impl.TokOk return, in one sentence: whether the model is one and the mark, or the token, is valid of it; for every model that lies in memory.
  What (machine).visit returns, in one sentence: the token, the mark and the bound behind a visit; for every valid token and mark.
  What visits returns, in one sentence: whether a valid token may visit a host with this mark; for every valid token and mark.
  What impl.TokVisit returns, in one sentence: the token, the mark and the bound behind a visit, or zero values; for every model that lies in memory.
-/
import Derived.Test.YtojnphchkdjafaaKT1
import Derived.Test.YtojnphchkdjafaaKW
import Derived.Test.YtojnphchkdjafaaKMixH
import Derived.RegionTactic
import Derived.ChangeAlike
namespace Go.Proofs.Ytojnphchkdjafaa
set_option maxRecDepth 100000
open Go.RowKit

theorem never_any (mb : Option Nat) (many til : Int) (w : World) (h0 : 0 ≤ til ∧ til ≤ 99) :
    Calls Try.prog 65 #[.agg #[.map mb, .int .i64 many, .int .i64 til]] w fun x w' => x = .returned (.int .i64 (til + 1)) ∧ Up w w' := by
  have i1 : IntKind.i64.wrap (til + 1) = til + 1 := IntWalk.i64_in _ (by omega)
  go_enter Try.func65, Try.ntmps65
  go_wp2
  go_ret
  exact ⟨rfl, (Up.refl _).alloc _⟩

set_option maxHeartbeats 4000000 in
theorem markOk_any (mb : Option Nat) (many til : Int) (g : Gm) (w : World) (h0 : 0 ≤ til ∧ til ≤ 99) (h1 : 1 ≤ many ∧ many ≤ 4) :
    Calls Try.prog 37 #[.agg #[.map mb, .int .i64 many, .int .i64 til], g.v] w fun x w' => x = .returned (.bool (gmB til g)) ∧ Up w w' := by
  obtain ⟨gr, ge, gq, gl⟩ := g
  unfold gmB Gm.v
  dsimp only
  have i1 : IntKind.i64.wrap (many - 1) = many - 1 := IntWalk.i64_in _ (by omega)
  have CN := Lib.hid (fun W => never_any mb many til W h0)
  clear h0 h1
  have C0 := Lib.hid (fun W => within_any gr 0 999 W)
  generalize inB gr 0 999 = b0 at C0 ⊢
  have C1 := Lib.hid (fun W => within_any ge (-9999) 9999 W)
  generalize inB ge (-9999) 9999 = b1 at C1 ⊢
  have C2 := Lib.hid (fun W => within_any gq (-9999) 9999 W)
  generalize inB gq (-9999) 9999 = b2 at C2 ⊢
  have C3 := Lib.hid (fun W => within_any gl 0 (til + 1) W)
  generalize inB gl 0 (til + 1) = b3 at C3 ⊢
  have X0 := Lib.hid ((Bk.new w #[.map mb, .int .i64 many, .int .i64 til] 73).alloc (.cells #[.int .i64 gr, .int .i64 ge, .int .i64 gq, .int .i64 gl] 28))
  have X1 := Lib.hid (Bk.new (w.alloc (.cells #[.map mb, .int .i64 many, .int .i64 til] 73)) #[.int .i64 gr, .int .i64 ge, .int .i64 gq, .int .i64 gl] 28)
  simp only [World.size_alloc] at X1
  have U := Lib.hid (((Up.refl w).alloc (.cells #[.map mb, .int .i64 many, .int .i64 til] 73)).alloc (.cells #[.int .i64 gr, .int .i64 ge, .int .i64 gq, .int .i64 gl] 28))
  cases b0
  · simp only [Bool.false_and]
    go_enter Try.func37, Try.ntmps37
    go_wp2_with fail
    generalize (w.alloc (.cells #[.map mb, .int .i64 many, .int .i64 til] 73)).alloc (.cells #[.int .i64 gr, .int .i64 ge, .int .i64 gq, .int .i64 gl] 28) = W at *
    generalize hb1 : w.heap.size + 1 = b1 at *
    generalize hb0 : w.heap.size = b0 at *
    refine region_mixH (fun w' => Up W w') [(0, true), (1, true), (2, false), (3, true), (4, true), (5, true), (6, true), (7, true), (8, true), (9, true), (10, true), (11, true), (12, true), (13, true), (14, true), (15, true), (16, true), (17, true), (18, true), (19, true), (20, true)] (by kernel_rfl) (by kernel_rfl) (Up.refl _).drew ?_
    refine mixH_take rfl (by rfl) ?_
    apply Exists.intro
    refine ⟨fun w1 hS1 => ?_, ?_⟩
    · clear hS1
      go_simp
      try rfl
    go_simp
    refine mixH_take rfl (by rfl) ?_
    apply Exists.intro
    refine ⟨fun w1 hS1 => ?_, ?_⟩
    · obtain ⟨l0, l1⟩ := And.intro (X0.out.up hS1).lt (X1.out.up hS1).lt
      have z0 := (X0.out.up hS1).cell (j := 0) rfl
      have z1 := (X0.out.up hS1).cell (j := 1) rfl
      have z2 := (X0.out.up hS1).cell (j := 2) rfl
      have y0 := (X1.out.up hS1).cell (j := 0) rfl
      have y1 := (X1.out.up hS1).cell (j := 1) rfl
      have y2 := (X1.out.up hS1).cell (j := 2) rfl
      have y3 := (X1.out.up hS1).cell (j := 3) rfl
      clear hS1
      go_simp
      try rfl
    go_simp
    refine mixH_go rfl (by rfl) (fun K hK => ?_)
    go_simp
    refine (C0.out _).mono ?_
    rintro x wz ⟨rfl, rfl⟩
    refine hK _ _ (Up.refl _).drew ?_
    clear hK K
    go_simp
    refine mixH_take rfl (by rfl) ?_
    apply Exists.intro
    refine ⟨fun w1 hS1 => ?_, ?_⟩
    · clear hS1
      go_simp
      try rfl
    go_simp
    refine mixH_skip rfl (by rfl) ?_
    go_simp
    refine mixH_skip rfl (by rfl) ?_
    go_simp
    refine mixH_skip rfl (by rfl) ?_
    go_simp
    refine mixH_take rfl (by rfl) ?_
    apply Exists.intro
    refine ⟨fun w1 hS1 => ?_, ?_⟩
    · clear hS1
      go_simp
      try rfl
    go_simp
    refine mixH_take rfl (by rfl) ?_
    apply Exists.intro
    refine ⟨fun w1 hS1 => ?_, ?_⟩
    · clear hS1
      go_simp
      try rfl
    go_simp
    refine mixH_skip rfl (by rfl) ?_
    go_simp
    refine mixH_skip rfl (by rfl) ?_
    go_simp
    refine mixH_skip rfl (by rfl) ?_
    go_simp
    refine mixH_take rfl (by rfl) ?_
    apply Exists.intro
    refine ⟨fun w1 hS1 => ?_, ?_⟩
    · clear hS1
      go_simp
      try rfl
    go_simp
    refine mixH_take rfl (by rfl) ?_
    apply Exists.intro
    refine ⟨fun w1 hS1 => ?_, ?_⟩
    · clear hS1
      go_simp
      try rfl
    go_simp
    refine mixH_skip rfl (by rfl) ?_
    go_simp
    refine mixH_skip rfl (by rfl) ?_
    go_simp
    refine mixH_skip rfl (by rfl) ?_
    go_simp
    refine mixH_skip rfl (by rfl) ?_
    go_simp
    refine mixH_skip rfl (by rfl) ?_
    go_simp
    refine mixH_take rfl (by rfl) ?_
    apply Exists.intro
    refine ⟨fun w1 hS1 => ?_, ?_⟩
    · clear hS1
      go_simp
      try rfl
    go_simp
    refine mixH_take rfl (by rfl) ?_
    apply Exists.intro
    refine ⟨fun w1 hS1 => ?_, ?_⟩
    · clear hS1
      go_simp
      try rfl
    go_simp
    refine mixH_nil ?_
    go_wp2
    go_ret
    exact ⟨rfl, U.out.trans (Up.refl _).drew⟩
  · simp only [Bool.true_and]
    cases b1
    · simp only [Bool.false_and]
      go_enter Try.func37, Try.ntmps37
      go_wp2_with fail
      generalize (w.alloc (.cells #[.map mb, .int .i64 many, .int .i64 til] 73)).alloc (.cells #[.int .i64 gr, .int .i64 ge, .int .i64 gq, .int .i64 gl] 28) = W at *
      generalize hb1 : w.heap.size + 1 = b1 at *
      generalize hb0 : w.heap.size = b0 at *
      refine region_mixH (fun w' => Up W w') [(0, true), (1, true), (2, false), (3, true), (4, true), (5, true), (6, false), (7, true), (8, true), (9, true), (10, true), (11, true), (12, true), (13, true), (14, true), (15, true), (16, true), (17, true), (18, true), (19, true), (20, true)] (by kernel_rfl) (by kernel_rfl) (Up.refl _).drew ?_
      refine mixH_take rfl (by rfl) ?_
      apply Exists.intro
      refine ⟨fun w1 hS1 => ?_, ?_⟩
      · clear hS1
        go_simp
        try rfl
      go_simp
      refine mixH_take rfl (by rfl) ?_
      apply Exists.intro
      refine ⟨fun w1 hS1 => ?_, ?_⟩
      · obtain ⟨l0, l1⟩ := And.intro (X0.out.up hS1).lt (X1.out.up hS1).lt
        have z0 := (X0.out.up hS1).cell (j := 0) rfl
        have z1 := (X0.out.up hS1).cell (j := 1) rfl
        have z2 := (X0.out.up hS1).cell (j := 2) rfl
        have y0 := (X1.out.up hS1).cell (j := 0) rfl
        have y1 := (X1.out.up hS1).cell (j := 1) rfl
        have y2 := (X1.out.up hS1).cell (j := 2) rfl
        have y3 := (X1.out.up hS1).cell (j := 3) rfl
        clear hS1
        go_simp
        try rfl
      go_simp
      refine mixH_go rfl (by rfl) (fun K hK => ?_)
      go_simp
      refine (C0.out _).mono ?_
      rintro x wz ⟨rfl, rfl⟩
      refine hK _ _ (Up.refl _).drew ?_
      clear hK K
      go_simp
      refine mixH_take rfl (by rfl) ?_
      apply Exists.intro
      refine ⟨fun w1 hS1 => ?_, ?_⟩
      · clear hS1
        go_simp
        try rfl
      go_simp
      refine mixH_take rfl (by rfl) ?_
      apply Exists.intro
      refine ⟨fun w1 hS1 => ?_, ?_⟩
      · clear hS1
        go_simp
        try rfl
      go_simp
      refine mixH_take rfl (by rfl) ?_
      apply Exists.intro
      refine ⟨fun w1 hS1 => ?_, ?_⟩
      · obtain ⟨l0, l1⟩ := And.intro (X0.out.up hS1).lt (X1.out.up hS1).lt
        have z0 := (X0.out.up hS1).cell (j := 0) rfl
        have z1 := (X0.out.up hS1).cell (j := 1) rfl
        have z2 := (X0.out.up hS1).cell (j := 2) rfl
        have y0 := (X1.out.up hS1).cell (j := 0) rfl
        have y1 := (X1.out.up hS1).cell (j := 1) rfl
        have y2 := (X1.out.up hS1).cell (j := 2) rfl
        have y3 := (X1.out.up hS1).cell (j := 3) rfl
        clear hS1
        go_simp
        try rfl
      go_simp
      refine mixH_go rfl (by rfl) (fun K hK => ?_)
      go_simp
      refine (C1.out _).mono ?_
      rintro x wz ⟨rfl, rfl⟩
      refine hK _ _ (Up.refl _).drew ?_
      clear hK K
      go_simp
      refine mixH_take rfl (by rfl) ?_
      apply Exists.intro
      refine ⟨fun w1 hS1 => ?_, ?_⟩
      · clear hS1
        go_simp
        try rfl
      go_simp
      refine mixH_take rfl (by rfl) ?_
      apply Exists.intro
      refine ⟨fun w1 hS1 => ?_, ?_⟩
      · clear hS1
        go_simp
        try rfl
      go_simp
      refine mixH_skip rfl (by rfl) ?_
      go_simp
      refine mixH_skip rfl (by rfl) ?_
      go_simp
      refine mixH_skip rfl (by rfl) ?_
      go_simp
      refine mixH_take rfl (by rfl) ?_
      apply Exists.intro
      refine ⟨fun w1 hS1 => ?_, ?_⟩
      · clear hS1
        go_simp
        try rfl
      go_simp
      refine mixH_take rfl (by rfl) ?_
      apply Exists.intro
      refine ⟨fun w1 hS1 => ?_, ?_⟩
      · clear hS1
        go_simp
        try rfl
      go_simp
      refine mixH_skip rfl (by rfl) ?_
      go_simp
      refine mixH_skip rfl (by rfl) ?_
      go_simp
      refine mixH_skip rfl (by rfl) ?_
      go_simp
      refine mixH_skip rfl (by rfl) ?_
      go_simp
      refine mixH_skip rfl (by rfl) ?_
      go_simp
      refine mixH_take rfl (by rfl) ?_
      apply Exists.intro
      refine ⟨fun w1 hS1 => ?_, ?_⟩
      · clear hS1
        go_simp
        try rfl
      go_simp
      refine mixH_take rfl (by rfl) ?_
      apply Exists.intro
      refine ⟨fun w1 hS1 => ?_, ?_⟩
      · clear hS1
        go_simp
        try rfl
      go_simp
      refine mixH_nil ?_
      go_wp2
      go_ret
      exact ⟨rfl, U.out.trans (Up.refl _).drew⟩
    · simp only [Bool.true_and]
      cases b2
      · simp only [Bool.false_and]
        go_enter Try.func37, Try.ntmps37
        go_wp2_with fail
        generalize (w.alloc (.cells #[.map mb, .int .i64 many, .int .i64 til] 73)).alloc (.cells #[.int .i64 gr, .int .i64 ge, .int .i64 gq, .int .i64 gl] 28) = W at *
        generalize hb1 : w.heap.size + 1 = b1 at *
        generalize hb0 : w.heap.size = b0 at *
        refine region_mixH (fun w' => Up W w') [(0, true), (1, true), (2, false), (3, true), (4, true), (5, true), (6, false), (7, true), (8, true), (9, true), (10, true), (11, false), (12, true), (13, true), (14, true), (15, true), (16, true), (17, true), (18, true), (19, true), (20, true)] (by kernel_rfl) (by kernel_rfl) (Up.refl _).drew ?_
        refine mixH_take rfl (by rfl) ?_
        apply Exists.intro
        refine ⟨fun w1 hS1 => ?_, ?_⟩
        · clear hS1
          go_simp
          try rfl
        go_simp
        refine mixH_take rfl (by rfl) ?_
        apply Exists.intro
        refine ⟨fun w1 hS1 => ?_, ?_⟩
        · obtain ⟨l0, l1⟩ := And.intro (X0.out.up hS1).lt (X1.out.up hS1).lt
          have z0 := (X0.out.up hS1).cell (j := 0) rfl
          have z1 := (X0.out.up hS1).cell (j := 1) rfl
          have z2 := (X0.out.up hS1).cell (j := 2) rfl
          have y0 := (X1.out.up hS1).cell (j := 0) rfl
          have y1 := (X1.out.up hS1).cell (j := 1) rfl
          have y2 := (X1.out.up hS1).cell (j := 2) rfl
          have y3 := (X1.out.up hS1).cell (j := 3) rfl
          clear hS1
          go_simp
          try rfl
        go_simp
        refine mixH_go rfl (by rfl) (fun K hK => ?_)
        go_simp
        refine (C0.out _).mono ?_
        rintro x wz ⟨rfl, rfl⟩
        refine hK _ _ (Up.refl _).drew ?_
        clear hK K
        go_simp
        refine mixH_take rfl (by rfl) ?_
        apply Exists.intro
        refine ⟨fun w1 hS1 => ?_, ?_⟩
        · clear hS1
          go_simp
          try rfl
        go_simp
        refine mixH_take rfl (by rfl) ?_
        apply Exists.intro
        refine ⟨fun w1 hS1 => ?_, ?_⟩
        · clear hS1
          go_simp
          try rfl
        go_simp
        refine mixH_take rfl (by rfl) ?_
        apply Exists.intro
        refine ⟨fun w1 hS1 => ?_, ?_⟩
        · obtain ⟨l0, l1⟩ := And.intro (X0.out.up hS1).lt (X1.out.up hS1).lt
          have z0 := (X0.out.up hS1).cell (j := 0) rfl
          have z1 := (X0.out.up hS1).cell (j := 1) rfl
          have z2 := (X0.out.up hS1).cell (j := 2) rfl
          have y0 := (X1.out.up hS1).cell (j := 0) rfl
          have y1 := (X1.out.up hS1).cell (j := 1) rfl
          have y2 := (X1.out.up hS1).cell (j := 2) rfl
          have y3 := (X1.out.up hS1).cell (j := 3) rfl
          clear hS1
          go_simp
          try rfl
        go_simp
        refine mixH_go rfl (by rfl) (fun K hK => ?_)
        go_simp
        refine (C1.out _).mono ?_
        rintro x wz ⟨rfl, rfl⟩
        refine hK _ _ (Up.refl _).drew ?_
        clear hK K
        go_simp
        refine mixH_take rfl (by rfl) ?_
        apply Exists.intro
        refine ⟨fun w1 hS1 => ?_, ?_⟩
        · clear hS1
          go_simp
          try rfl
        go_simp
        refine mixH_take rfl (by rfl) ?_
        apply Exists.intro
        refine ⟨fun w1 hS1 => ?_, ?_⟩
        · clear hS1
          go_simp
          try rfl
        go_simp
        refine mixH_take rfl (by rfl) ?_
        apply Exists.intro
        refine ⟨fun w1 hS1 => ?_, ?_⟩
        · clear hS1
          go_simp
          try rfl
        go_simp
        refine mixH_take rfl (by rfl) ?_
        apply Exists.intro
        refine ⟨fun w1 hS1 => ?_, ?_⟩
        · obtain ⟨l0, l1⟩ := And.intro (X0.out.up hS1).lt (X1.out.up hS1).lt
          have z0 := (X0.out.up hS1).cell (j := 0) rfl
          have z1 := (X0.out.up hS1).cell (j := 1) rfl
          have z2 := (X0.out.up hS1).cell (j := 2) rfl
          have y0 := (X1.out.up hS1).cell (j := 0) rfl
          have y1 := (X1.out.up hS1).cell (j := 1) rfl
          have y2 := (X1.out.up hS1).cell (j := 2) rfl
          have y3 := (X1.out.up hS1).cell (j := 3) rfl
          clear hS1
          go_simp
          try rfl
        go_simp
        refine mixH_go rfl (by rfl) (fun K hK => ?_)
        go_simp
        refine (C2.out _).mono ?_
        rintro x wz ⟨rfl, rfl⟩
        refine hK _ _ (Up.refl _).drew ?_
        clear hK K
        go_simp
        refine mixH_take rfl (by rfl) ?_
        apply Exists.intro
        refine ⟨fun w1 hS1 => ?_, ?_⟩
        · clear hS1
          go_simp
          try rfl
        go_simp
        refine mixH_take rfl (by rfl) ?_
        apply Exists.intro
        refine ⟨fun w1 hS1 => ?_, ?_⟩
        · clear hS1
          go_simp
          try rfl
        go_simp
        refine mixH_skip rfl (by rfl) ?_
        go_simp
        refine mixH_skip rfl (by rfl) ?_
        go_simp
        refine mixH_skip rfl (by rfl) ?_
        go_simp
        refine mixH_skip rfl (by rfl) ?_
        go_simp
        refine mixH_skip rfl (by rfl) ?_
        go_simp
        refine mixH_take rfl (by rfl) ?_
        apply Exists.intro
        refine ⟨fun w1 hS1 => ?_, ?_⟩
        · clear hS1
          go_simp
          try rfl
        go_simp
        refine mixH_take rfl (by rfl) ?_
        apply Exists.intro
        refine ⟨fun w1 hS1 => ?_, ?_⟩
        · clear hS1
          go_simp
          try rfl
        go_simp
        refine mixH_nil ?_
        go_wp2
        go_ret
        exact ⟨rfl, U.out.trans (Up.refl _).drew⟩
      · simp only [Bool.true_and]
        cases b3
        all_goals
          try simp only [Bool.true_and, Bool.and_true]
          go_enter Try.func37, Try.ntmps37
          go_wp2_with fail
          generalize (w.alloc (.cells #[.map mb, .int .i64 many, .int .i64 til] 73)).alloc (.cells #[.int .i64 gr, .int .i64 ge, .int .i64 gq, .int .i64 gl] 28) = W at *
          generalize hb1 : w.heap.size + 1 = b1 at *
          generalize hb0 : w.heap.size = b0 at *
          refine region_mixH (fun w' => Up W w') [(0, true), (1, true), (2, false), (3, true), (4, true), (5, true), (6, false), (7, true), (8, true), (9, true), (10, true), (11, false), (12, true), (13, true), (14, true), (15, true), (16, true), (17, false), (18, false), (19, true), (20, true)] (by kernel_rfl) (by kernel_rfl) (Up.refl _).drew ?_
          refine mixH_take rfl (by rfl) ?_
          apply Exists.intro
          refine ⟨fun w1 hS1 => ?_, ?_⟩
          · clear hS1
            go_simp
            try rfl
          go_simp
          refine mixH_take rfl (by rfl) ?_
          apply Exists.intro
          refine ⟨fun w1 hS1 => ?_, ?_⟩
          · obtain ⟨l0, l1⟩ := And.intro (X0.out.up hS1).lt (X1.out.up hS1).lt
            have z0 := (X0.out.up hS1).cell (j := 0) rfl
            have z1 := (X0.out.up hS1).cell (j := 1) rfl
            have z2 := (X0.out.up hS1).cell (j := 2) rfl
            have y0 := (X1.out.up hS1).cell (j := 0) rfl
            have y1 := (X1.out.up hS1).cell (j := 1) rfl
            have y2 := (X1.out.up hS1).cell (j := 2) rfl
            have y3 := (X1.out.up hS1).cell (j := 3) rfl
            clear hS1
            go_simp
            try rfl
          go_simp
          refine mixH_go rfl (by rfl) (fun K hK => ?_)
          go_simp
          refine (C0.out _).mono ?_
          rintro x wz ⟨rfl, rfl⟩
          refine hK _ _ (Up.refl _).drew ?_
          clear hK K
          go_simp
          refine mixH_take rfl (by rfl) ?_
          apply Exists.intro
          refine ⟨fun w1 hS1 => ?_, ?_⟩
          · clear hS1
            go_simp
            try rfl
          go_simp
          refine mixH_take rfl (by rfl) ?_
          apply Exists.intro
          refine ⟨fun w1 hS1 => ?_, ?_⟩
          · clear hS1
            go_simp
            try rfl
          go_simp
          refine mixH_take rfl (by rfl) ?_
          apply Exists.intro
          refine ⟨fun w1 hS1 => ?_, ?_⟩
          · obtain ⟨l0, l1⟩ := And.intro (X0.out.up hS1).lt (X1.out.up hS1).lt
            have z0 := (X0.out.up hS1).cell (j := 0) rfl
            have z1 := (X0.out.up hS1).cell (j := 1) rfl
            have z2 := (X0.out.up hS1).cell (j := 2) rfl
            have y0 := (X1.out.up hS1).cell (j := 0) rfl
            have y1 := (X1.out.up hS1).cell (j := 1) rfl
            have y2 := (X1.out.up hS1).cell (j := 2) rfl
            have y3 := (X1.out.up hS1).cell (j := 3) rfl
            clear hS1
            go_simp
            try rfl
          go_simp
          refine mixH_go rfl (by rfl) (fun K hK => ?_)
          go_simp
          refine (C1.out _).mono ?_
          rintro x wz ⟨rfl, rfl⟩
          refine hK _ _ (Up.refl _).drew ?_
          clear hK K
          go_simp
          refine mixH_take rfl (by rfl) ?_
          apply Exists.intro
          refine ⟨fun w1 hS1 => ?_, ?_⟩
          · clear hS1
            go_simp
            try rfl
          go_simp
          refine mixH_take rfl (by rfl) ?_
          apply Exists.intro
          refine ⟨fun w1 hS1 => ?_, ?_⟩
          · clear hS1
            go_simp
            try rfl
          go_simp
          refine mixH_take rfl (by rfl) ?_
          apply Exists.intro
          refine ⟨fun w1 hS1 => ?_, ?_⟩
          · clear hS1
            go_simp
            try rfl
          go_simp
          refine mixH_take rfl (by rfl) ?_
          apply Exists.intro
          refine ⟨fun w1 hS1 => ?_, ?_⟩
          · obtain ⟨l0, l1⟩ := And.intro (X0.out.up hS1).lt (X1.out.up hS1).lt
            have z0 := (X0.out.up hS1).cell (j := 0) rfl
            have z1 := (X0.out.up hS1).cell (j := 1) rfl
            have z2 := (X0.out.up hS1).cell (j := 2) rfl
            have y0 := (X1.out.up hS1).cell (j := 0) rfl
            have y1 := (X1.out.up hS1).cell (j := 1) rfl
            have y2 := (X1.out.up hS1).cell (j := 2) rfl
            have y3 := (X1.out.up hS1).cell (j := 3) rfl
            clear hS1
            go_simp
            try rfl
          go_simp
          refine mixH_go rfl (by rfl) (fun K hK => ?_)
          go_simp
          refine (C2.out _).mono ?_
          rintro x wz ⟨rfl, rfl⟩
          refine hK _ _ (Up.refl _).drew ?_
          clear hK K
          go_simp
          refine mixH_take rfl (by rfl) ?_
          apply Exists.intro
          refine ⟨fun w1 hS1 => ?_, ?_⟩
          · clear hS1
            go_simp
            try rfl
          go_simp
          refine mixH_take rfl (by rfl) ?_
          apply Exists.intro
          refine ⟨fun w1 hS1 => ?_, ?_⟩
          · clear hS1
            go_simp
            try rfl
          go_simp
          refine mixH_take rfl (by rfl) ?_
          apply Exists.intro
          refine ⟨fun w1 hS1 => ?_, ?_⟩
          · clear hS1
            go_simp
            try rfl
          go_simp
          refine mixH_take rfl (by rfl) ?_
          apply Exists.intro
          refine ⟨fun w1 hS1 => ?_, ?_⟩
          · obtain ⟨l0, l1⟩ := And.intro (X0.out.up hS1).lt (X1.out.up hS1).lt
            have z0 := (X0.out.up hS1).cell (j := 0) rfl
            have z1 := (X0.out.up hS1).cell (j := 1) rfl
            have z2 := (X0.out.up hS1).cell (j := 2) rfl
            have y0 := (X1.out.up hS1).cell (j := 0) rfl
            have y1 := (X1.out.up hS1).cell (j := 1) rfl
            have y2 := (X1.out.up hS1).cell (j := 2) rfl
            have y3 := (X1.out.up hS1).cell (j := 3) rfl
            clear hS1
            go_simp
            try rfl
          go_simp
          refine mixH_take rfl (by rfl) ?_
          apply Exists.intro
          refine ⟨fun w1 hS1 => ?_, ?_⟩
          · obtain ⟨l0, l1⟩ := And.intro (X0.out.up hS1).lt (X1.out.up hS1).lt
            have z0 := (X0.out.up hS1).cell (j := 0) rfl
            have z1 := (X0.out.up hS1).cell (j := 1) rfl
            have z2 := (X0.out.up hS1).cell (j := 2) rfl
            have y0 := (X1.out.up hS1).cell (j := 0) rfl
            have y1 := (X1.out.up hS1).cell (j := 1) rfl
            have y2 := (X1.out.up hS1).cell (j := 2) rfl
            have y3 := (X1.out.up hS1).cell (j := 3) rfl
            clear hS1
            go_simp
            try rfl
          go_simp
          refine mixH_go rfl (by rfl) (fun K hK => ?_)
          go_simp
          refine (CN.out _).mono ?_
          rintro x wz ⟨rfl, uA⟩
          refine hK _ _ ((Up.refl _).drew.trans uA) ?_
          clear hK K
          go_simp
          refine mixH_go rfl (by rfl) (fun K hK => ?_)
          go_simp
          refine (C3.out _).mono ?_
          rintro x wz ⟨rfl, rfl⟩
          refine hK _ _ ((Up.refl _).drew.trans uA) ?_
          clear hK K
          go_simp
          refine mixH_take rfl (by rfl) ?_
          apply Exists.intro
          refine ⟨fun w1 hS1 => ?_, ?_⟩
          · clear hS1
            go_simp
            try rfl
          go_simp
          refine mixH_take rfl (by rfl) ?_
          apply Exists.intro
          refine ⟨fun w1 hS1 => ?_, ?_⟩
          · clear hS1
            go_simp
            try rfl
          go_simp
          refine mixH_nil ?_
          go_wp2
          go_ret
          exact ⟨rfl, U.out.trans ((Up.refl _).drew.trans uA)⟩

set_option maxHeartbeats 4000000 in
theorem tokenOk_any (mb : Option Nat) (many til : Int) (g : Gk) (w : World) (h0 : 0 ≤ til ∧ til ≤ 99) (h1 : 1 ≤ many ∧ many ≤ 4) :
    Calls Try.prog 38 #[.agg #[.map mb, .int .i64 many, .int .i64 til], g.v] w fun x w' => x = .returned (.bool (gkB til many g)) ∧ Up w w' := by
  obtain ⟨ton, tr, ta, tn, tl⟩ := g
  unfold gkB Gk.v
  dsimp only
  have i1 : IntKind.i64.wrap (many - 1) = many - 1 := IntWalk.i64_in _ (by omega)
  have CN := Lib.hid (fun W => never_any mb many til W h0)
  clear h0 h1
  have C0 := Lib.hid (fun W => within_any tr 0 999 W)
  generalize inB tr 0 999 = b0 at C0 ⊢
  have C1 := Lib.hid (fun W => within_any ta 0 (many - 1) W)
  generalize inB ta 0 (many - 1) = b1 at C1 ⊢
  have C2 := Lib.hid (fun W => within_any tn (-39996) 39996 W)
  generalize inB tn (-39996) 39996 = b2 at C2 ⊢
  have C3 := Lib.hid (fun W => within_any tl 0 (til + 1) W)
  generalize inB tl 0 (til + 1) = b3 at C3 ⊢
  have X0 := Lib.hid ((Bk.new w #[.map mb, .int .i64 many, .int .i64 til] 73).alloc (.cells #[.bool ton, .int .i64 tr, .int .i64 ta, .int .i64 tn, .int .i64 tl] 32))
  have X1 := Lib.hid (Bk.new (w.alloc (.cells #[.map mb, .int .i64 many, .int .i64 til] 73)) #[.bool ton, .int .i64 tr, .int .i64 ta, .int .i64 tn, .int .i64 tl] 32)
  simp only [World.size_alloc] at X1
  have U := Lib.hid (((Up.refl w).alloc (.cells #[.map mb, .int .i64 many, .int .i64 til] 73)).alloc (.cells #[.bool ton, .int .i64 tr, .int .i64 ta, .int .i64 tn, .int .i64 tl] 32))
  cases b0
  · simp only [Bool.false_and]
    go_enter Try.func38, Try.ntmps38
    go_wp2_with fail
    generalize (w.alloc (.cells #[.map mb, .int .i64 many, .int .i64 til] 73)).alloc (.cells #[.bool ton, .int .i64 tr, .int .i64 ta, .int .i64 tn, .int .i64 tl] 32) = W at *
    generalize hb1 : w.heap.size + 1 = b1 at *
    generalize hb0 : w.heap.size = b0 at *
    refine region_mixH (fun w' => Up W w') [(0, true), (1, true), (2, false), (3, true), (4, true), (5, true), (6, true), (7, true), (8, true), (9, true), (10, true), (11, true), (12, true), (13, true), (14, true), (15, true), (16, true), (17, true), (18, true), (19, true), (20, true), (21, true), (22, true), (23, true)] (by kernel_rfl) (by kernel_rfl) (Up.refl _).drew ?_
    refine mixH_take rfl (by rfl) ?_
    apply Exists.intro
    refine ⟨fun w1 hS1 => ?_, ?_⟩
    · clear hS1
      go_simp
      try rfl
    go_simp
    refine mixH_take rfl (by rfl) ?_
    apply Exists.intro
    refine ⟨fun w1 hS1 => ?_, ?_⟩
    · obtain ⟨l0, l1⟩ := And.intro (X0.out.up hS1).lt (X1.out.up hS1).lt
      have z0 := (X0.out.up hS1).cell (j := 0) rfl
      have z1 := (X0.out.up hS1).cell (j := 1) rfl
      have z2 := (X0.out.up hS1).cell (j := 2) rfl
      have y0 := (X1.out.up hS1).cell (j := 0) rfl
      have y1 := (X1.out.up hS1).cell (j := 1) rfl
      have y2 := (X1.out.up hS1).cell (j := 2) rfl
      have y3 := (X1.out.up hS1).cell (j := 3) rfl
      have y4 := (X1.out.up hS1).cell (j := 4) rfl
      clear hS1
      go_simp
      try rfl
    go_simp
    refine mixH_go rfl (by rfl) (fun K hK => ?_)
    go_simp
    refine (C0.out _).mono ?_
    rintro x wz ⟨rfl, rfl⟩
    refine hK _ _ (Up.refl _).drew ?_
    clear hK K
    go_simp
    refine mixH_take rfl (by rfl) ?_
    apply Exists.intro
    refine ⟨fun w1 hS1 => ?_, ?_⟩
    · clear hS1
      go_simp
      try rfl
    go_simp
    refine mixH_skip rfl (by rfl) ?_
    go_simp
    refine mixH_skip rfl (by rfl) ?_
    go_simp
    refine mixH_skip rfl (by rfl) ?_
    go_simp
    refine mixH_skip rfl (by rfl) ?_
    go_simp
    refine mixH_skip rfl (by rfl) ?_
    go_simp
    refine mixH_skip rfl (by rfl) ?_
    go_simp
    refine mixH_take rfl (by rfl) ?_
    apply Exists.intro
    refine ⟨fun w1 hS1 => ?_, ?_⟩
    · clear hS1
      go_simp
      try rfl
    go_simp
    refine mixH_take rfl (by rfl) ?_
    apply Exists.intro
    refine ⟨fun w1 hS1 => ?_, ?_⟩
    · clear hS1
      go_simp
      try rfl
    go_simp
    refine mixH_skip rfl (by rfl) ?_
    go_simp
    refine mixH_skip rfl (by rfl) ?_
    go_simp
    refine mixH_skip rfl (by rfl) ?_
    go_simp
    refine mixH_take rfl (by rfl) ?_
    apply Exists.intro
    refine ⟨fun w1 hS1 => ?_, ?_⟩
    · clear hS1
      go_simp
      try rfl
    go_simp
    refine mixH_take rfl (by rfl) ?_
    apply Exists.intro
    refine ⟨fun w1 hS1 => ?_, ?_⟩
    · clear hS1
      go_simp
      try rfl
    go_simp
    refine mixH_skip rfl (by rfl) ?_
    go_simp
    refine mixH_skip rfl (by rfl) ?_
    go_simp
    refine mixH_skip rfl (by rfl) ?_
    go_simp
    refine mixH_skip rfl (by rfl) ?_
    go_simp
    refine mixH_skip rfl (by rfl) ?_
    go_simp
    refine mixH_take rfl (by rfl) ?_
    apply Exists.intro
    refine ⟨fun w1 hS1 => ?_, ?_⟩
    · clear hS1
      go_simp
      try rfl
    go_simp
    refine mixH_take rfl (by rfl) ?_
    apply Exists.intro
    refine ⟨fun w1 hS1 => ?_, ?_⟩
    · clear hS1
      go_simp
      try rfl
    go_simp
    refine mixH_nil ?_
    go_wp2
    go_ret
    exact ⟨rfl, U.out.trans (Up.refl _).drew⟩
  · simp only [Bool.true_and]
    cases b1
    · simp only [Bool.false_and]
      go_enter Try.func38, Try.ntmps38
      go_wp2_with fail
      generalize (w.alloc (.cells #[.map mb, .int .i64 many, .int .i64 til] 73)).alloc (.cells #[.bool ton, .int .i64 tr, .int .i64 ta, .int .i64 tn, .int .i64 tl] 32) = W at *
      generalize hb1 : w.heap.size + 1 = b1 at *
      generalize hb0 : w.heap.size = b0 at *
      refine region_mixH (fun w' => Up W w') [(0, true), (1, true), (2, false), (3, true), (4, true), (5, true), (6, true), (7, true), (8, true), (9, false), (10, true), (11, true), (12, true), (13, true), (14, true), (15, true), (16, true), (17, true), (18, true), (19, true), (20, true), (21, true), (22, true), (23, true)] (by kernel_rfl) (by kernel_rfl) (Up.refl _).drew ?_
      refine mixH_take rfl (by rfl) ?_
      apply Exists.intro
      refine ⟨fun w1 hS1 => ?_, ?_⟩
      · clear hS1
        go_simp
        try rfl
      go_simp
      refine mixH_take rfl (by rfl) ?_
      apply Exists.intro
      refine ⟨fun w1 hS1 => ?_, ?_⟩
      · obtain ⟨l0, l1⟩ := And.intro (X0.out.up hS1).lt (X1.out.up hS1).lt
        have z0 := (X0.out.up hS1).cell (j := 0) rfl
        have z1 := (X0.out.up hS1).cell (j := 1) rfl
        have z2 := (X0.out.up hS1).cell (j := 2) rfl
        have y0 := (X1.out.up hS1).cell (j := 0) rfl
        have y1 := (X1.out.up hS1).cell (j := 1) rfl
        have y2 := (X1.out.up hS1).cell (j := 2) rfl
        have y3 := (X1.out.up hS1).cell (j := 3) rfl
        have y4 := (X1.out.up hS1).cell (j := 4) rfl
        clear hS1
        go_simp
        try rfl
      go_simp
      refine mixH_go rfl (by rfl) (fun K hK => ?_)
      go_simp
      refine (C0.out _).mono ?_
      rintro x wz ⟨rfl, rfl⟩
      refine hK _ _ (Up.refl _).drew ?_
      clear hK K
      go_simp
      refine mixH_take rfl (by rfl) ?_
      apply Exists.intro
      refine ⟨fun w1 hS1 => ?_, ?_⟩
      · clear hS1
        go_simp
        try rfl
      go_simp
      refine mixH_take rfl (by rfl) ?_
      apply Exists.intro
      refine ⟨fun w1 hS1 => ?_, ?_⟩
      · clear hS1
        go_simp
        try rfl
      go_simp
      refine mixH_take rfl (by rfl) ?_
      apply Exists.intro
      refine ⟨fun w1 hS1 => ?_, ?_⟩
      · obtain ⟨l0, l1⟩ := And.intro (X0.out.up hS1).lt (X1.out.up hS1).lt
        have z0 := (X0.out.up hS1).cell (j := 0) rfl
        have z1 := (X0.out.up hS1).cell (j := 1) rfl
        have z2 := (X0.out.up hS1).cell (j := 2) rfl
        have y0 := (X1.out.up hS1).cell (j := 0) rfl
        have y1 := (X1.out.up hS1).cell (j := 1) rfl
        have y2 := (X1.out.up hS1).cell (j := 2) rfl
        have y3 := (X1.out.up hS1).cell (j := 3) rfl
        have y4 := (X1.out.up hS1).cell (j := 4) rfl
        clear hS1
        go_simp
        try rfl
      go_simp
      refine mixH_take rfl (by rfl) ?_
      apply Exists.intro
      refine ⟨fun w1 hS1 => ?_, ?_⟩
      · clear hS1
        go_simp
        try rfl
      go_simp
      refine mixH_take rfl (by rfl) ?_
      apply Exists.intro
      refine ⟨fun w1 hS1 => ?_, ?_⟩
      · obtain ⟨l0, l1⟩ := And.intro (X0.out.up hS1).lt (X1.out.up hS1).lt
        have z0 := (X0.out.up hS1).cell (j := 0) rfl
        have z1 := (X0.out.up hS1).cell (j := 1) rfl
        have z2 := (X0.out.up hS1).cell (j := 2) rfl
        have y0 := (X1.out.up hS1).cell (j := 0) rfl
        have y1 := (X1.out.up hS1).cell (j := 1) rfl
        have y2 := (X1.out.up hS1).cell (j := 2) rfl
        have y3 := (X1.out.up hS1).cell (j := 3) rfl
        have y4 := (X1.out.up hS1).cell (j := 4) rfl
        clear hS1
        go_simp
        try rfl
      go_simp
      refine mixH_take rfl (by rfl) ?_
      apply Exists.intro
      refine ⟨fun w1 hS1 => ?_, ?_⟩
      · clear hS1
        go_simp
        try rfl
      go_simp
      refine mixH_go rfl (by rfl) (fun K hK => ?_)
      go_simp
      refine (C1.out _).mono ?_
      rintro x wz ⟨rfl, rfl⟩
      refine hK _ _ (Up.refl _).drew ?_
      clear hK K
      go_simp
      refine mixH_take rfl (by rfl) ?_
      apply Exists.intro
      refine ⟨fun w1 hS1 => ?_, ?_⟩
      · clear hS1
        go_simp
        try rfl
      go_simp
      refine mixH_take rfl (by rfl) ?_
      apply Exists.intro
      refine ⟨fun w1 hS1 => ?_, ?_⟩
      · clear hS1
        go_simp
        try rfl
      go_simp
      refine mixH_skip rfl (by rfl) ?_
      go_simp
      refine mixH_skip rfl (by rfl) ?_
      go_simp
      refine mixH_skip rfl (by rfl) ?_
      go_simp
      refine mixH_take rfl (by rfl) ?_
      apply Exists.intro
      refine ⟨fun w1 hS1 => ?_, ?_⟩
      · clear hS1
        go_simp
        try rfl
      go_simp
      refine mixH_take rfl (by rfl) ?_
      apply Exists.intro
      refine ⟨fun w1 hS1 => ?_, ?_⟩
      · clear hS1
        go_simp
        try rfl
      go_simp
      refine mixH_skip rfl (by rfl) ?_
      go_simp
      refine mixH_skip rfl (by rfl) ?_
      go_simp
      refine mixH_skip rfl (by rfl) ?_
      go_simp
      refine mixH_skip rfl (by rfl) ?_
      go_simp
      refine mixH_skip rfl (by rfl) ?_
      go_simp
      refine mixH_take rfl (by rfl) ?_
      apply Exists.intro
      refine ⟨fun w1 hS1 => ?_, ?_⟩
      · clear hS1
        go_simp
        try rfl
      go_simp
      refine mixH_take rfl (by rfl) ?_
      apply Exists.intro
      refine ⟨fun w1 hS1 => ?_, ?_⟩
      · clear hS1
        go_simp
        try rfl
      go_simp
      refine mixH_nil ?_
      go_wp2
      go_ret
      exact ⟨rfl, U.out.trans (Up.refl _).drew⟩
    · simp only [Bool.true_and]
      cases b2
      · simp only [Bool.false_and]
        go_enter Try.func38, Try.ntmps38
        go_wp2_with fail
        generalize (w.alloc (.cells #[.map mb, .int .i64 many, .int .i64 til] 73)).alloc (.cells #[.bool ton, .int .i64 tr, .int .i64 ta, .int .i64 tn, .int .i64 tl] 32) = W at *
        generalize hb1 : w.heap.size + 1 = b1 at *
        generalize hb0 : w.heap.size = b0 at *
        refine region_mixH (fun w' => Up W w') [(0, true), (1, true), (2, false), (3, true), (4, true), (5, true), (6, true), (7, true), (8, true), (9, false), (10, true), (11, true), (12, true), (13, true), (14, false), (15, true), (16, true), (17, true), (18, true), (19, true), (20, true), (21, true), (22, true), (23, true)] (by kernel_rfl) (by kernel_rfl) (Up.refl _).drew ?_
        refine mixH_take rfl (by rfl) ?_
        apply Exists.intro
        refine ⟨fun w1 hS1 => ?_, ?_⟩
        · clear hS1
          go_simp
          try rfl
        go_simp
        refine mixH_take rfl (by rfl) ?_
        apply Exists.intro
        refine ⟨fun w1 hS1 => ?_, ?_⟩
        · obtain ⟨l0, l1⟩ := And.intro (X0.out.up hS1).lt (X1.out.up hS1).lt
          have z0 := (X0.out.up hS1).cell (j := 0) rfl
          have z1 := (X0.out.up hS1).cell (j := 1) rfl
          have z2 := (X0.out.up hS1).cell (j := 2) rfl
          have y0 := (X1.out.up hS1).cell (j := 0) rfl
          have y1 := (X1.out.up hS1).cell (j := 1) rfl
          have y2 := (X1.out.up hS1).cell (j := 2) rfl
          have y3 := (X1.out.up hS1).cell (j := 3) rfl
          have y4 := (X1.out.up hS1).cell (j := 4) rfl
          clear hS1
          go_simp
          try rfl
        go_simp
        refine mixH_go rfl (by rfl) (fun K hK => ?_)
        go_simp
        refine (C0.out _).mono ?_
        rintro x wz ⟨rfl, rfl⟩
        refine hK _ _ (Up.refl _).drew ?_
        clear hK K
        go_simp
        refine mixH_take rfl (by rfl) ?_
        apply Exists.intro
        refine ⟨fun w1 hS1 => ?_, ?_⟩
        · clear hS1
          go_simp
          try rfl
        go_simp
        refine mixH_take rfl (by rfl) ?_
        apply Exists.intro
        refine ⟨fun w1 hS1 => ?_, ?_⟩
        · clear hS1
          go_simp
          try rfl
        go_simp
        refine mixH_take rfl (by rfl) ?_
        apply Exists.intro
        refine ⟨fun w1 hS1 => ?_, ?_⟩
        · obtain ⟨l0, l1⟩ := And.intro (X0.out.up hS1).lt (X1.out.up hS1).lt
          have z0 := (X0.out.up hS1).cell (j := 0) rfl
          have z1 := (X0.out.up hS1).cell (j := 1) rfl
          have z2 := (X0.out.up hS1).cell (j := 2) rfl
          have y0 := (X1.out.up hS1).cell (j := 0) rfl
          have y1 := (X1.out.up hS1).cell (j := 1) rfl
          have y2 := (X1.out.up hS1).cell (j := 2) rfl
          have y3 := (X1.out.up hS1).cell (j := 3) rfl
          have y4 := (X1.out.up hS1).cell (j := 4) rfl
          clear hS1
          go_simp
          try rfl
        go_simp
        refine mixH_take rfl (by rfl) ?_
        apply Exists.intro
        refine ⟨fun w1 hS1 => ?_, ?_⟩
        · clear hS1
          go_simp
          try rfl
        go_simp
        refine mixH_take rfl (by rfl) ?_
        apply Exists.intro
        refine ⟨fun w1 hS1 => ?_, ?_⟩
        · obtain ⟨l0, l1⟩ := And.intro (X0.out.up hS1).lt (X1.out.up hS1).lt
          have z0 := (X0.out.up hS1).cell (j := 0) rfl
          have z1 := (X0.out.up hS1).cell (j := 1) rfl
          have z2 := (X0.out.up hS1).cell (j := 2) rfl
          have y0 := (X1.out.up hS1).cell (j := 0) rfl
          have y1 := (X1.out.up hS1).cell (j := 1) rfl
          have y2 := (X1.out.up hS1).cell (j := 2) rfl
          have y3 := (X1.out.up hS1).cell (j := 3) rfl
          have y4 := (X1.out.up hS1).cell (j := 4) rfl
          clear hS1
          go_simp
          try rfl
        go_simp
        refine mixH_take rfl (by rfl) ?_
        apply Exists.intro
        refine ⟨fun w1 hS1 => ?_, ?_⟩
        · clear hS1
          go_simp
          try rfl
        go_simp
        refine mixH_go rfl (by rfl) (fun K hK => ?_)
        go_simp
        refine (C1.out _).mono ?_
        rintro x wz ⟨rfl, rfl⟩
        refine hK _ _ (Up.refl _).drew ?_
        clear hK K
        go_simp
        refine mixH_take rfl (by rfl) ?_
        apply Exists.intro
        refine ⟨fun w1 hS1 => ?_, ?_⟩
        · clear hS1
          go_simp
          try rfl
        go_simp
        refine mixH_take rfl (by rfl) ?_
        apply Exists.intro
        refine ⟨fun w1 hS1 => ?_, ?_⟩
        · clear hS1
          go_simp
          try rfl
        go_simp
        refine mixH_take rfl (by rfl) ?_
        apply Exists.intro
        refine ⟨fun w1 hS1 => ?_, ?_⟩
        · clear hS1
          go_simp
          try rfl
        go_simp
        refine mixH_take rfl (by rfl) ?_
        apply Exists.intro
        refine ⟨fun w1 hS1 => ?_, ?_⟩
        · obtain ⟨l0, l1⟩ := And.intro (X0.out.up hS1).lt (X1.out.up hS1).lt
          have z0 := (X0.out.up hS1).cell (j := 0) rfl
          have z1 := (X0.out.up hS1).cell (j := 1) rfl
          have z2 := (X0.out.up hS1).cell (j := 2) rfl
          have y0 := (X1.out.up hS1).cell (j := 0) rfl
          have y1 := (X1.out.up hS1).cell (j := 1) rfl
          have y2 := (X1.out.up hS1).cell (j := 2) rfl
          have y3 := (X1.out.up hS1).cell (j := 3) rfl
          have y4 := (X1.out.up hS1).cell (j := 4) rfl
          clear hS1
          go_simp
          try rfl
        go_simp
        refine mixH_go rfl (by rfl) (fun K hK => ?_)
        go_simp
        refine (C2.out _).mono ?_
        rintro x wz ⟨rfl, rfl⟩
        refine hK _ _ (Up.refl _).drew ?_
        clear hK K
        go_simp
        refine mixH_take rfl (by rfl) ?_
        apply Exists.intro
        refine ⟨fun w1 hS1 => ?_, ?_⟩
        · clear hS1
          go_simp
          try rfl
        go_simp
        refine mixH_take rfl (by rfl) ?_
        apply Exists.intro
        refine ⟨fun w1 hS1 => ?_, ?_⟩
        · clear hS1
          go_simp
          try rfl
        go_simp
        refine mixH_skip rfl (by rfl) ?_
        go_simp
        refine mixH_skip rfl (by rfl) ?_
        go_simp
        refine mixH_skip rfl (by rfl) ?_
        go_simp
        refine mixH_skip rfl (by rfl) ?_
        go_simp
        refine mixH_skip rfl (by rfl) ?_
        go_simp
        refine mixH_take rfl (by rfl) ?_
        apply Exists.intro
        refine ⟨fun w1 hS1 => ?_, ?_⟩
        · clear hS1
          go_simp
          try rfl
        go_simp
        refine mixH_take rfl (by rfl) ?_
        apply Exists.intro
        refine ⟨fun w1 hS1 => ?_, ?_⟩
        · clear hS1
          go_simp
          try rfl
        go_simp
        refine mixH_nil ?_
        go_wp2
        go_ret
        exact ⟨rfl, U.out.trans (Up.refl _).drew⟩
      · simp only [Bool.true_and]
        cases b3
        all_goals
          try simp only [Bool.true_and, Bool.and_true]
          go_enter Try.func38, Try.ntmps38
          go_wp2_with fail
          generalize (w.alloc (.cells #[.map mb, .int .i64 many, .int .i64 til] 73)).alloc (.cells #[.bool ton, .int .i64 tr, .int .i64 ta, .int .i64 tn, .int .i64 tl] 32) = W at *
          generalize hb1 : w.heap.size + 1 = b1 at *
          generalize hb0 : w.heap.size = b0 at *
          refine region_mixH (fun w' => Up W w') [(0, true), (1, true), (2, false), (3, true), (4, true), (5, true), (6, true), (7, true), (8, true), (9, false), (10, true), (11, true), (12, true), (13, true), (14, false), (15, true), (16, true), (17, true), (18, true), (19, true), (20, false), (21, false), (22, true), (23, true)] (by kernel_rfl) (by kernel_rfl) (Up.refl _).drew ?_
          refine mixH_take rfl (by rfl) ?_
          apply Exists.intro
          refine ⟨fun w1 hS1 => ?_, ?_⟩
          · clear hS1
            go_simp
            try rfl
          go_simp
          refine mixH_take rfl (by rfl) ?_
          apply Exists.intro
          refine ⟨fun w1 hS1 => ?_, ?_⟩
          · obtain ⟨l0, l1⟩ := And.intro (X0.out.up hS1).lt (X1.out.up hS1).lt
            have z0 := (X0.out.up hS1).cell (j := 0) rfl
            have z1 := (X0.out.up hS1).cell (j := 1) rfl
            have z2 := (X0.out.up hS1).cell (j := 2) rfl
            have y0 := (X1.out.up hS1).cell (j := 0) rfl
            have y1 := (X1.out.up hS1).cell (j := 1) rfl
            have y2 := (X1.out.up hS1).cell (j := 2) rfl
            have y3 := (X1.out.up hS1).cell (j := 3) rfl
            have y4 := (X1.out.up hS1).cell (j := 4) rfl
            clear hS1
            go_simp
            try rfl
          go_simp
          refine mixH_go rfl (by rfl) (fun K hK => ?_)
          go_simp
          refine (C0.out _).mono ?_
          rintro x wz ⟨rfl, rfl⟩
          refine hK _ _ (Up.refl _).drew ?_
          clear hK K
          go_simp
          refine mixH_take rfl (by rfl) ?_
          apply Exists.intro
          refine ⟨fun w1 hS1 => ?_, ?_⟩
          · clear hS1
            go_simp
            try rfl
          go_simp
          refine mixH_take rfl (by rfl) ?_
          apply Exists.intro
          refine ⟨fun w1 hS1 => ?_, ?_⟩
          · clear hS1
            go_simp
            try rfl
          go_simp
          refine mixH_take rfl (by rfl) ?_
          apply Exists.intro
          refine ⟨fun w1 hS1 => ?_, ?_⟩
          · obtain ⟨l0, l1⟩ := And.intro (X0.out.up hS1).lt (X1.out.up hS1).lt
            have z0 := (X0.out.up hS1).cell (j := 0) rfl
            have z1 := (X0.out.up hS1).cell (j := 1) rfl
            have z2 := (X0.out.up hS1).cell (j := 2) rfl
            have y0 := (X1.out.up hS1).cell (j := 0) rfl
            have y1 := (X1.out.up hS1).cell (j := 1) rfl
            have y2 := (X1.out.up hS1).cell (j := 2) rfl
            have y3 := (X1.out.up hS1).cell (j := 3) rfl
            have y4 := (X1.out.up hS1).cell (j := 4) rfl
            clear hS1
            go_simp
            try rfl
          go_simp
          refine mixH_take rfl (by rfl) ?_
          apply Exists.intro
          refine ⟨fun w1 hS1 => ?_, ?_⟩
          · clear hS1
            go_simp
            try rfl
          go_simp
          refine mixH_take rfl (by rfl) ?_
          apply Exists.intro
          refine ⟨fun w1 hS1 => ?_, ?_⟩
          · obtain ⟨l0, l1⟩ := And.intro (X0.out.up hS1).lt (X1.out.up hS1).lt
            have z0 := (X0.out.up hS1).cell (j := 0) rfl
            have z1 := (X0.out.up hS1).cell (j := 1) rfl
            have z2 := (X0.out.up hS1).cell (j := 2) rfl
            have y0 := (X1.out.up hS1).cell (j := 0) rfl
            have y1 := (X1.out.up hS1).cell (j := 1) rfl
            have y2 := (X1.out.up hS1).cell (j := 2) rfl
            have y3 := (X1.out.up hS1).cell (j := 3) rfl
            have y4 := (X1.out.up hS1).cell (j := 4) rfl
            clear hS1
            go_simp
            try rfl
          go_simp
          refine mixH_take rfl (by rfl) ?_
          apply Exists.intro
          refine ⟨fun w1 hS1 => ?_, ?_⟩
          · clear hS1
            go_simp
            try rfl
          go_simp
          refine mixH_go rfl (by rfl) (fun K hK => ?_)
          go_simp
          refine (C1.out _).mono ?_
          rintro x wz ⟨rfl, rfl⟩
          refine hK _ _ (Up.refl _).drew ?_
          clear hK K
          go_simp
          refine mixH_take rfl (by rfl) ?_
          apply Exists.intro
          refine ⟨fun w1 hS1 => ?_, ?_⟩
          · clear hS1
            go_simp
            try rfl
          go_simp
          refine mixH_take rfl (by rfl) ?_
          apply Exists.intro
          refine ⟨fun w1 hS1 => ?_, ?_⟩
          · clear hS1
            go_simp
            try rfl
          go_simp
          refine mixH_take rfl (by rfl) ?_
          apply Exists.intro
          refine ⟨fun w1 hS1 => ?_, ?_⟩
          · clear hS1
            go_simp
            try rfl
          go_simp
          refine mixH_take rfl (by rfl) ?_
          apply Exists.intro
          refine ⟨fun w1 hS1 => ?_, ?_⟩
          · obtain ⟨l0, l1⟩ := And.intro (X0.out.up hS1).lt (X1.out.up hS1).lt
            have z0 := (X0.out.up hS1).cell (j := 0) rfl
            have z1 := (X0.out.up hS1).cell (j := 1) rfl
            have z2 := (X0.out.up hS1).cell (j := 2) rfl
            have y0 := (X1.out.up hS1).cell (j := 0) rfl
            have y1 := (X1.out.up hS1).cell (j := 1) rfl
            have y2 := (X1.out.up hS1).cell (j := 2) rfl
            have y3 := (X1.out.up hS1).cell (j := 3) rfl
            have y4 := (X1.out.up hS1).cell (j := 4) rfl
            clear hS1
            go_simp
            try rfl
          go_simp
          refine mixH_go rfl (by rfl) (fun K hK => ?_)
          go_simp
          refine (C2.out _).mono ?_
          rintro x wz ⟨rfl, rfl⟩
          refine hK _ _ (Up.refl _).drew ?_
          clear hK K
          go_simp
          refine mixH_take rfl (by rfl) ?_
          apply Exists.intro
          refine ⟨fun w1 hS1 => ?_, ?_⟩
          · clear hS1
            go_simp
            try rfl
          go_simp
          refine mixH_take rfl (by rfl) ?_
          apply Exists.intro
          refine ⟨fun w1 hS1 => ?_, ?_⟩
          · clear hS1
            go_simp
            try rfl
          go_simp
          refine mixH_take rfl (by rfl) ?_
          apply Exists.intro
          refine ⟨fun w1 hS1 => ?_, ?_⟩
          · clear hS1
            go_simp
            try rfl
          go_simp
          refine mixH_take rfl (by rfl) ?_
          apply Exists.intro
          refine ⟨fun w1 hS1 => ?_, ?_⟩
          · obtain ⟨l0, l1⟩ := And.intro (X0.out.up hS1).lt (X1.out.up hS1).lt
            have z0 := (X0.out.up hS1).cell (j := 0) rfl
            have z1 := (X0.out.up hS1).cell (j := 1) rfl
            have z2 := (X0.out.up hS1).cell (j := 2) rfl
            have y0 := (X1.out.up hS1).cell (j := 0) rfl
            have y1 := (X1.out.up hS1).cell (j := 1) rfl
            have y2 := (X1.out.up hS1).cell (j := 2) rfl
            have y3 := (X1.out.up hS1).cell (j := 3) rfl
            have y4 := (X1.out.up hS1).cell (j := 4) rfl
            clear hS1
            go_simp
            try rfl
          go_simp
          refine mixH_take rfl (by rfl) ?_
          apply Exists.intro
          refine ⟨fun w1 hS1 => ?_, ?_⟩
          · obtain ⟨l0, l1⟩ := And.intro (X0.out.up hS1).lt (X1.out.up hS1).lt
            have z0 := (X0.out.up hS1).cell (j := 0) rfl
            have z1 := (X0.out.up hS1).cell (j := 1) rfl
            have z2 := (X0.out.up hS1).cell (j := 2) rfl
            have y0 := (X1.out.up hS1).cell (j := 0) rfl
            have y1 := (X1.out.up hS1).cell (j := 1) rfl
            have y2 := (X1.out.up hS1).cell (j := 2) rfl
            have y3 := (X1.out.up hS1).cell (j := 3) rfl
            have y4 := (X1.out.up hS1).cell (j := 4) rfl
            clear hS1
            go_simp
            try rfl
          go_simp
          refine mixH_go rfl (by rfl) (fun K hK => ?_)
          go_simp
          refine (CN.out _).mono ?_
          rintro x wz ⟨rfl, uA⟩
          refine hK _ _ ((Up.refl _).drew.trans uA) ?_
          clear hK K
          go_simp
          refine mixH_go rfl (by rfl) (fun K hK => ?_)
          go_simp
          refine (C3.out _).mono ?_
          rintro x wz ⟨rfl, rfl⟩
          refine hK _ _ ((Up.refl _).drew.trans uA) ?_
          clear hK K
          go_simp
          refine mixH_take rfl (by rfl) ?_
          apply Exists.intro
          refine ⟨fun w1 hS1 => ?_, ?_⟩
          · clear hS1
            go_simp
            try rfl
          go_simp
          refine mixH_take rfl (by rfl) ?_
          apply Exists.intro
          refine ⟨fun w1 hS1 => ?_, ?_⟩
          · clear hS1
            go_simp
            try rfl
          go_simp
          refine mixH_nil ?_
          go_wp2
          go_ret
          exact ⟨rfl, U.out.trans ((Up.refl _).drew.trans uA)⟩

set_option maxHeartbeats 4000000 in
theorem implMrk_any (A : Option Addr) (n c : Nat) (B : Option Addr) (k d : Nat) (m : Mdl) (g : Gm) (w : World) (hM : MdlV w A n B k m) :
    Calls Try.prog 11 #[.agg #[.slice A n c, .slice B k d, .int .i64 m.til], g.v] w fun x w' => x = .returned (.bool (mdlB m && gmB m.til g)) ∧ Up w w' := by
  have CM := Lib.hid (fun W (u : Up w W) => newMachine_any A n c B k d m W (hM.up u))
  have CF := Lib.hid (fun mp W (h : mdlB m = true) => markOk_any mp m.rules.length m.til g W (mdlB_til h) (by have := mdlB_few h; omega))
  obtain ⟨res, hr⟩ : ∃ r, r = (mdlB m && gmB m.til g) := ⟨_, rfl⟩
  rw [← hr]
  have RB := Lib.hid hr
  clear hr
  generalize gmB m.til g = q at RB CF
  obtain ⟨gr, ge, gq, gl⟩ := g
  unfold Gm.v at CF ⊢
  dsimp only at CF ⊢
  have B1 := Bk.new (w.alloc (.cells #[.slice A n c, .slice B k d, .int .i64 m.til] 26)) #[.int .i64 gr, .int .i64 ge, .int .i64 gq, .int .i64 gl] 28
  simp only [World.size_alloc] at B1
  have U0 := Lib.hid (((Up.refl w).alloc (.cells #[.slice A n c, .slice B k d, .int .i64 m.til] 26)).alloc (.cells #[.int .i64 gr, .int .i64 ge, .int .i64 gq, .int .i64 gl] 28))
  have B1 := Lib.hid B1
  clear hM
  unfold MachPost at CM
  go_enter Try.func11, Try.ntmps11
  go_wp2_with fail
  generalize (w.alloc (.cells #[.slice A n c, .slice B k d, .int .i64 m.til] 26)).alloc (.cells #[.int .i64 gr, .int .i64 ge, .int .i64 gq, .int .i64 gl] 28) = W at *
  generalize hb1 : w.heap.size + 1 = b1 at *
  clear hb1
  refine (CM.out _ U0.out).mono ?_
  rintro x w1 ⟨u1, h⟩
  have U1 := Lib.hid (U0.out.trans u1)
  have B1 := Lib.hid (B1.out.up u1)
  clear u1 CM
  rcases h with ⟨hm, rfl⟩ | ⟨hm, b, rfl, _, _⟩
  · have RT := Lib.hid (show res = false by rw [RB.out, hm]; rfl)
    have UE := Lib.hid (U1.out.alloc (.cells #[.map none, .int .i64 0, .int .i64 0] 73))
    clear hm RB
    go_wp2
    go_ret
    exact ⟨ret_bool (by rw [RT.out]), UE.out⟩
  · have RT := Lib.hid (show res = q by rw [RB.out, hm]; rfl)
    have CF := Lib.hid (fun mp W => CF.out mp W hm)
    have ua := (Up.refl w1).alloc (.cells #[.map (some b), .int .i64 m.rules.length, .int .i64 m.til] 73)
    have B1 := Lib.hid (B1.out.up ua)
    have U1 := Lib.hid (U1.out.trans ua)
    have p0 := B1.out.cell (j := 0) rfl
    have p1 := B1.out.cell (j := 1) rfl
    have p2 := B1.out.cell (j := 2) rfl
    have p3 := B1.out.cell (j := 3) rfl
    have l1 := B1.out.lt
    clear hm RB ua
    go_wp2_with fail
    refine (CF.out (some b) _).mono ?_
    rintro x w2 ⟨rfl, u2⟩
    have UE := Lib.hid (U1.out.trans u2)
    clear u2
    go_wp2
    go_ret
    exact ⟨ret_bool (by rw [RT.out]), UE.out⟩

set_option maxHeartbeats 4000000 in
theorem implTok_any (A : Option Addr) (n c : Nat) (B : Option Addr) (k d : Nat) (m : Mdl) (g : Gk) (w : World) (hM : MdlV w A n B k m) :
    Calls Try.prog 12 #[.agg #[.slice A n c, .slice B k d, .int .i64 m.til], g.v] w fun x w' => x = .returned (.bool (mdlB m && gkB m.til m.rules.length g)) ∧ Up w w' := by
  have CM := Lib.hid (fun W (u : Up w W) => newMachine_any A n c B k d m W (hM.up u))
  have CF := Lib.hid (fun mp W (h : mdlB m = true) => tokenOk_any mp m.rules.length m.til g W (mdlB_til h) (by have := mdlB_few h; omega))
  obtain ⟨res, hr⟩ : ∃ r, r = (mdlB m && gkB m.til m.rules.length g) := ⟨_, rfl⟩
  rw [← hr]
  have RB := Lib.hid hr
  clear hr
  generalize gkB m.til m.rules.length g = q at RB CF
  obtain ⟨ton, tr, ta, tn, tl⟩ := g
  unfold Gk.v at CF ⊢
  dsimp only at CF ⊢
  have B1 := Bk.new (w.alloc (.cells #[.slice A n c, .slice B k d, .int .i64 m.til] 26)) #[.bool ton, .int .i64 tr, .int .i64 ta, .int .i64 tn, .int .i64 tl] 32
  simp only [World.size_alloc] at B1
  have U0 := Lib.hid (((Up.refl w).alloc (.cells #[.slice A n c, .slice B k d, .int .i64 m.til] 26)).alloc (.cells #[.bool ton, .int .i64 tr, .int .i64 ta, .int .i64 tn, .int .i64 tl] 32))
  have B1 := Lib.hid B1
  clear hM
  unfold MachPost at CM
  go_enter Try.func12, Try.ntmps12
  go_wp2_with fail
  generalize (w.alloc (.cells #[.slice A n c, .slice B k d, .int .i64 m.til] 26)).alloc (.cells #[.bool ton, .int .i64 tr, .int .i64 ta, .int .i64 tn, .int .i64 tl] 32) = W at *
  generalize hb1 : w.heap.size + 1 = b1 at *
  clear hb1
  refine (CM.out _ U0.out).mono ?_
  rintro x w1 ⟨u1, h⟩
  have U1 := Lib.hid (U0.out.trans u1)
  have B1 := Lib.hid (B1.out.up u1)
  clear u1 CM
  rcases h with ⟨hm, rfl⟩ | ⟨hm, b, rfl, _, _⟩
  · have RT := Lib.hid (show res = false by rw [RB.out, hm]; rfl)
    have UE := Lib.hid (U1.out.alloc (.cells #[.map none, .int .i64 0, .int .i64 0] 73))
    clear hm RB
    go_wp2
    go_ret
    exact ⟨ret_bool (by rw [RT.out]), UE.out⟩
  · have RT := Lib.hid (show res = q by rw [RB.out, hm]; rfl)
    have CF := Lib.hid (fun mp W => CF.out mp W hm)
    have ua := (Up.refl w1).alloc (.cells #[.map (some b), .int .i64 m.rules.length, .int .i64 m.til] 73)
    have B1 := Lib.hid (B1.out.up ua)
    have U1 := Lib.hid (U1.out.trans ua)
    have p0 := B1.out.cell (j := 0) rfl
    have p1 := B1.out.cell (j := 1) rfl
    have p2 := B1.out.cell (j := 2) rfl
    have p3 := B1.out.cell (j := 3) rfl
    have p4 := B1.out.cell (j := 4) rfl
    have l1 := B1.out.lt
    clear hm RB ua
    go_wp2_with fail
    refine (CF.out (some b) _).mono ?_
    rintro x w2 ⟨rfl, u2⟩
    have UE := Lib.hid (U1.out.trans u2)
    clear u2
    go_wp2
    go_ret
    exact ⟨ret_bool (by rw [RT.out]), UE.out⟩

end Go.Proofs.Ytojnphchkdjafaa

namespace Go.Proofs.Ytojnphchkdjafaa
set_option maxRecDepth 100000
open Go.RowKit

theorem never_ex (mb : Option Nat) (many til : Int) (w : World) (i1 : IntKind.i64.wrap (til + 1) = til + 1) :
    Calls Try.prog 65 #[.agg #[.map mb, .int .i64 many, .int .i64 til]] w fun x w' => x = .returned (.int .i64 (til + 1)) ∧ w' = w.alloc (.cells #[.map mb, .int .i64 many, .int .i64 til] 73) := by
  go_enter Try.func65, Try.ntmps65
  go_wp2
  go_ret
  exact ⟨rfl, rfl⟩
theorem tally_ex (g : Gm) (w : World) :
    Calls Try.prog 69 #[g.v] w fun x w' => x = .returned (.agg #[.int .i64 g.e, .int .i64 g.o]) ∧ w' = (w.alloc (.cells #[.int .i64 g.r, .int .i64 g.e, .int .i64 g.o, .int .i64 g.l] 28)).alloc (.cells #[.int .i64 g.e, .int .i64 g.o] 121) := by
  obtain ⟨r, e, o, l⟩ := g
  unfold Gm.v
  dsimp only
  go_enter Try.func69, Try.ntmps69
  go_wp2
  exact bodyPost_ret (v := .agg #[.int .i64 e, .int .i64 o]) (by simp [results, Try.results69, go_sem]) rfl ⟨rfl, rfl⟩
theorem colourOf_ex (r : Int) (w : World) (h : 0 ≤ r ∧ r ≤ 999) :
    Calls Try.prog 70 #[.int .i64 r] w fun x w' => x = .returned (.int .i64 (r % 2)) ∧ w' = w := by
  have i5 : Int.tmod r 2 = r % 2 := Int.tmod_eq_emod_of_nonneg (by omega)
  have i6 : IntKind.i64.wrap (r % 2) = r % 2 := IntWalk.i64_in _ (by omega)
  go_enter Try.func70, Try.ntmps70
  go_wp2
  go_ret
  exact ⟨rfl, rfl⟩
theorem other_ex (c : Int) (w : World) (h : 0 ≤ c ∧ c ≤ 1) :
    Calls Try.prog 71 #[.int .i64 c] w fun x w' => x = .returned (.int .i64 (1 - c)) ∧ w' = w := by
  have i6 : IntKind.i64.wrap (1 - c) = 1 - c := IntWalk.i64_in _ (by omega)
  go_enter Try.func71, Try.ntmps71
  go_wp2
  go_ret
  exact ⟨rfl, rfl⟩
theorem endLap_ex0 (mb : Option Nat) (many til : Int) (on : Bool) (r a l : Int) (w : World) (i1 : IntKind.i64.wrap (til + 1) = til + 1) :
    Calls Try.prog 72 #[.agg #[.map mb, .int .i64 many, .int .i64 til], .agg #[.bool on, .int .i64 r, .int .i64 a, .int .i64 0, .int .i64 l]] w fun x w' => x = .returned (.tuple #[.agg #[.bool false, .int .i64 r, .int .i64 0, .int .i64 0, .int .i64 (til + 1)], .int .i64 l]) ∧
      w' = (((w.alloc (.cells #[.map mb, .int .i64 many, .int .i64 til] 73)).alloc (.cells #[.bool false, .int .i64 r, .int .i64 0, .int .i64 0, .int .i64 (til + 1)] 32)).alloc (.cells #[.bool false, .int .i64 r, .int .i64 0, .int .i64 0, .int .i64 (til + 1)] 32)).alloc (.cells #[.map mb, .int .i64 many, .int .i64 til] 73) := by
  go_enter Try.func72, Try.ntmps72
  go_wp2_with (go_at_call 65; refine (never_ex mb many til _ i1).mono ?_; rintro x wz ⟨rfl, rfl⟩)
  exact bodyPost_ret (v := .tuple #[.agg #[.bool false, .int .i64 r, .int .i64 0, .int .i64 0, .int .i64 (til + 1)], .int .i64 l]) (by simp [results, Try.results72, go_sem]) rfl ⟨rfl, rfl⟩
theorem endLap_ex1 (mb : Option Nat) (many til : Int) (on : Bool) (r a n l : Int) (w : World) (i1 : IntKind.i64.wrap (til + 1) = til + 1) (j : ¬ n = 0) :
    Calls Try.prog 72 #[.agg #[.map mb, .int .i64 many, .int .i64 til], .agg #[.bool on, .int .i64 r, .int .i64 a, .int .i64 n, .int .i64 l]] w fun x w' => x = .returned (.tuple #[.agg #[.bool on, .int .i64 r, .int .i64 0, .int .i64 n, .int .i64 (til + 1)], .int .i64 (-1)]) ∧
      w' = (((w.alloc (.cells #[.map mb, .int .i64 many, .int .i64 til] 73)).alloc (.cells #[.bool on, .int .i64 r, .int .i64 0, .int .i64 n, .int .i64 (til + 1)] 32)).alloc (.cells #[.bool on, .int .i64 r, .int .i64 0, .int .i64 n, .int .i64 (til + 1)] 32)).alloc (.cells #[.map mb, .int .i64 many, .int .i64 til] 73) := by
  go_enter Try.func72, Try.ntmps72
  go_wp2_with (go_at_call 65; refine (never_ex mb many til _ i1).mono ?_; rintro x wz ⟨rfl, rfl⟩)
  exact bodyPost_ret (v := .tuple #[.agg #[.bool on, .int .i64 r, .int .i64 0, .int .i64 n, .int .i64 (til + 1)], .int .i64 (-1)]) (by simp [results, Try.results72, go_sem]) rfl ⟨rfl, rfl⟩

set_option maxHeartbeats 40000000 in
theorem visit_any (mb : Option Nat) (n : Nat) (til : Int) (t : Gk) (g : Gm) (least : Int) (w : World) (h0 : 0 ≤ til ∧ til ≤ 99) (h1 : 1 ≤ n ∧ n ≤ 4) (hk : gkB til n t = true) (hm : gmB til g = true) :
    Calls Try.prog 44 #[.agg #[.map mb, .int .i64 (n : Int), .int .i64 til], t.v, g.v, .int .i64 least] w fun x w' => x = .returned (tokV (visK til n t g least)) ∧ Up w w' := by
  obtain ⟨gr, ge, gq, gl⟩ := g
  obtain ⟨ton, tr, ta, tn, tl⟩ := t
  simp only [gkB, gmB, Bool.and_eq_true, inB_iff] at hk hm
  have i1 : IntKind.i64.wrap (til + 1) = til + 1 := IntWalk.i64_in _ (by omega)
  have i2 : IntKind.i64.wrap (ta + 1) = ta + 1 := IntWalk.i64_in _ (by omega)
  have i3 : IntKind.i64.wrap (tn + ge) = tn + ge := IntWalk.i64_in _ (by omega)
  have i4 : IntKind.i64.wrap (tn + gq) = tn + gq := IntWalk.i64_in _ (by omega)
  have i5 : Int.tmod tr 2 = tr % 2 := Int.tmod_eq_emod_of_nonneg (by omega)
  have hr9 : 0 ≤ tr ∧ tr ≤ 999 := by omega
  by_cases j1 : gr < tr
  · obtain ⟨q1, hq1⟩ : ∃ q, (if least < tl then least else tl) = q := ⟨_, rfl⟩
    obtain ⟨q2, hq2⟩ : ∃ q, (if til + 1 < q1 then til + 1 else q1) = q := ⟨_, rfl⟩
    have hq : min tl (min least (til + 1)) = q2 := by
      rw [← hq2, ← hq1]
      repeat' split
      all_goals omega
    have hmn : ∀ W : World, (Builtin.min_ #[3, 3, 3] 3 #[.int .i64 tl, .int .i64 least, .int .i64 (til + 1)]).run Try.prog W = .ok (.int .i64 q2) W := fun W => by
      rw [← hq2, ← hq1]
      simp [Builtin.min_, Builtin.min2]
    by_cases j2 : tr % 2 = 1
    · by_cases j3 : ta + 1 < (n : Int)
      · have RV := Lib.hid (show tokV (visK til n ⟨ton, tr, ta, tn, tl⟩ ⟨gr, ge, gq, gl⟩ least) = .tuple #[.agg #[.bool ton, .int .i64 tr, .int .i64 (ta + 1), .int .i64 (tn + ge), .int .i64 (q2)], .agg #[.int .i64 tr, .int .i64 0, .int .i64 gq, .int .i64 (til + 1)], .int .i64 (-1)] by
          simp [tokV, visK, visM, visG, visN, visE, j1, j2, j3, hq, Gk.v, Gm.v])
        rw [RV.out]
        unfold Gk.v Gm.v
        dsimp only
        clear RV hq
        go_enter Try.func44, Try.ntmps44
        go_wp2_with (first | (go_at_call 65; refine (never_ex mb n til _ i1).mono ?_; rintro x wz ⟨rfl, rfl⟩) | (go_at_call 69; refine (tally_ex ⟨_, _, _, _⟩ _).mono ?_; rintro x wz ⟨rfl, rfl⟩; dsimp only) | (go_at_call 70; refine (colourOf_ex tr _ hr9).mono ?_; rintro x wz ⟨rfl, rfl⟩) | (go_at_call 71; refine (other_ex _ _ (by omega)).mono ?_; rintro x wz ⟨rfl, rfl⟩))
        go_region
        go_wp2_with (first | (go_at_call 65; refine (never_ex mb n til _ i1).mono ?_; rintro x wz ⟨rfl, rfl⟩) | (go_at_call 69; refine (tally_ex ⟨_, _, _, _⟩ _).mono ?_; rintro x wz ⟨rfl, rfl⟩; dsimp only) | (go_at_call 70; refine (colourOf_ex tr _ hr9).mono ?_; rintro x wz ⟨rfl, rfl⟩) | (go_at_call 71; refine (other_ex _ _ (by omega)).mono ?_; rintro x wz ⟨rfl, rfl⟩))
        go_region
        go_wp2_with (first | (go_at_call 65; refine (never_ex mb n til _ i1).mono ?_; rintro x wz ⟨rfl, rfl⟩) | (go_at_call 69; refine (tally_ex ⟨_, _, _, _⟩ _).mono ?_; rintro x wz ⟨rfl, rfl⟩; dsimp only) | (go_at_call 70; refine (colourOf_ex tr _ hr9).mono ?_; rintro x wz ⟨rfl, rfl⟩) | (go_at_call 71; refine (other_ex _ _ (by omega)).mono ?_; rintro x wz ⟨rfl, rfl⟩))
        go_region
        go_wp2
        exact bodyPost_ret (v := .tuple #[.agg #[.bool ton, .int .i64 tr, .int .i64 (ta + 1), .int .i64 (tn + ge), .int .i64 (q2)], .agg #[.int .i64 tr, .int .i64 0, .int .i64 gq, .int .i64 (til + 1)], .int .i64 (-1)]) (by simp [results, Try.results44, go_sem]) rfl ⟨rfl, by repeat (first | exact Up.refl _ | refine Up.drew ?_ | refine Up.alloc ?_ _)⟩
      · by_cases j6 : tn + ge = 0
        · have RV := Lib.hid (show tokV (visK til n ⟨ton, tr, ta, tn, tl⟩ ⟨gr, ge, gq, gl⟩ least) = .tuple #[.agg #[.bool false, .int .i64 tr, .int .i64 (0), .int .i64 (0), .int .i64 (til + 1)], .agg #[.int .i64 tr, .int .i64 0, .int .i64 gq, .int .i64 (til + 1)], .int .i64 (q2)] by
            simp [tokV, visK, visM, visG, visN, visE, j1, j2, j3, j6, hq, Gk.v, Gm.v])
          rw [RV.out]
          unfold Gk.v Gm.v
          dsimp only
          clear RV hq
          go_enter Try.func44, Try.ntmps44
          go_wp2_with (first | (go_at_call 65; refine (never_ex mb n til _ i1).mono ?_; rintro x wz ⟨rfl, rfl⟩) | (go_at_call 69; refine (tally_ex ⟨_, _, _, _⟩ _).mono ?_; rintro x wz ⟨rfl, rfl⟩; dsimp only) | (go_at_call 70; refine (colourOf_ex tr _ hr9).mono ?_; rintro x wz ⟨rfl, rfl⟩) | (go_at_call 71; refine (other_ex _ _ (by omega)).mono ?_; rintro x wz ⟨rfl, rfl⟩) | (go_at_call 72; refine (endLap_ex0 mb n til _ _ _ _ _ i1).mono ?_; rintro x wz ⟨rfl, rfl⟩))
          go_region
          go_wp2_with (first | (go_at_call 65; refine (never_ex mb n til _ i1).mono ?_; rintro x wz ⟨rfl, rfl⟩) | (go_at_call 69; refine (tally_ex ⟨_, _, _, _⟩ _).mono ?_; rintro x wz ⟨rfl, rfl⟩; dsimp only) | (go_at_call 70; refine (colourOf_ex tr _ hr9).mono ?_; rintro x wz ⟨rfl, rfl⟩) | (go_at_call 71; refine (other_ex _ _ (by omega)).mono ?_; rintro x wz ⟨rfl, rfl⟩) | (go_at_call 72; refine (endLap_ex0 mb n til _ _ _ _ _ i1).mono ?_; rintro x wz ⟨rfl, rfl⟩))
          go_region
          go_wp2_with (first | (go_at_call 65; refine (never_ex mb n til _ i1).mono ?_; rintro x wz ⟨rfl, rfl⟩) | (go_at_call 69; refine (tally_ex ⟨_, _, _, _⟩ _).mono ?_; rintro x wz ⟨rfl, rfl⟩; dsimp only) | (go_at_call 70; refine (colourOf_ex tr _ hr9).mono ?_; rintro x wz ⟨rfl, rfl⟩) | (go_at_call 71; refine (other_ex _ _ (by omega)).mono ?_; rintro x wz ⟨rfl, rfl⟩) | (go_at_call 72; refine (endLap_ex0 mb n til _ _ _ _ _ i1).mono ?_; rintro x wz ⟨rfl, rfl⟩))
          go_region
          go_wp2
          exact bodyPost_ret (v := .tuple #[.agg #[.bool false, .int .i64 tr, .int .i64 (0), .int .i64 (0), .int .i64 (til + 1)], .agg #[.int .i64 tr, .int .i64 0, .int .i64 gq, .int .i64 (til + 1)], .int .i64 (q2)]) (by simp [results, Try.results44, go_sem]) rfl ⟨rfl, by repeat (first | exact Up.refl _ | refine Up.drew ?_ | refine Up.alloc ?_ _)⟩
        · have RV := Lib.hid (show tokV (visK til n ⟨ton, tr, ta, tn, tl⟩ ⟨gr, ge, gq, gl⟩ least) = .tuple #[.agg #[.bool ton, .int .i64 tr, .int .i64 (0), .int .i64 (tn + ge), .int .i64 (til + 1)], .agg #[.int .i64 tr, .int .i64 0, .int .i64 gq, .int .i64 (til + 1)], .int .i64 (-1)] by
            simp [tokV, visK, visM, visG, visN, visE, j1, j2, j3, j6, Gk.v, Gm.v])
          rw [RV.out]
          unfold Gk.v Gm.v
          dsimp only
          clear RV hq
          go_enter Try.func44, Try.ntmps44
          go_wp2_with (first | (go_at_call 65; refine (never_ex mb n til _ i1).mono ?_; rintro x wz ⟨rfl, rfl⟩) | (go_at_call 69; refine (tally_ex ⟨_, _, _, _⟩ _).mono ?_; rintro x wz ⟨rfl, rfl⟩; dsimp only) | (go_at_call 70; refine (colourOf_ex tr _ hr9).mono ?_; rintro x wz ⟨rfl, rfl⟩) | (go_at_call 71; refine (other_ex _ _ (by omega)).mono ?_; rintro x wz ⟨rfl, rfl⟩) | (go_at_call 72; refine (endLap_ex1 mb n til _ _ _ _ _ _ i1 j6).mono ?_; rintro x wz ⟨rfl, rfl⟩))
          go_region
          go_wp2_with (first | (go_at_call 65; refine (never_ex mb n til _ i1).mono ?_; rintro x wz ⟨rfl, rfl⟩) | (go_at_call 69; refine (tally_ex ⟨_, _, _, _⟩ _).mono ?_; rintro x wz ⟨rfl, rfl⟩; dsimp only) | (go_at_call 70; refine (colourOf_ex tr _ hr9).mono ?_; rintro x wz ⟨rfl, rfl⟩) | (go_at_call 71; refine (other_ex _ _ (by omega)).mono ?_; rintro x wz ⟨rfl, rfl⟩) | (go_at_call 72; refine (endLap_ex1 mb n til _ _ _ _ _ _ i1 j6).mono ?_; rintro x wz ⟨rfl, rfl⟩))
          go_region
          go_wp2_with (first | (go_at_call 65; refine (never_ex mb n til _ i1).mono ?_; rintro x wz ⟨rfl, rfl⟩) | (go_at_call 69; refine (tally_ex ⟨_, _, _, _⟩ _).mono ?_; rintro x wz ⟨rfl, rfl⟩; dsimp only) | (go_at_call 70; refine (colourOf_ex tr _ hr9).mono ?_; rintro x wz ⟨rfl, rfl⟩) | (go_at_call 71; refine (other_ex _ _ (by omega)).mono ?_; rintro x wz ⟨rfl, rfl⟩) | (go_at_call 72; refine (endLap_ex1 mb n til _ _ _ _ _ _ i1 j6).mono ?_; rintro x wz ⟨rfl, rfl⟩))
          go_region
          go_wp2
          exact bodyPost_ret (v := .tuple #[.agg #[.bool ton, .int .i64 tr, .int .i64 (0), .int .i64 (tn + ge), .int .i64 (til + 1)], .agg #[.int .i64 tr, .int .i64 0, .int .i64 gq, .int .i64 (til + 1)], .int .i64 (-1)]) (by simp [results, Try.results44, go_sem]) rfl ⟨rfl, by repeat (first | exact Up.refl _ | refine Up.drew ?_ | refine Up.alloc ?_ _)⟩
    · have j2z : tr % 2 = 0 := by omega
      by_cases j3 : ta + 1 < (n : Int)
      · have RV := Lib.hid (show tokV (visK til n ⟨ton, tr, ta, tn, tl⟩ ⟨gr, ge, gq, gl⟩ least) = .tuple #[.agg #[.bool ton, .int .i64 tr, .int .i64 (ta + 1), .int .i64 (tn + gq), .int .i64 (q2)], .agg #[.int .i64 tr, .int .i64 ge, .int .i64 0, .int .i64 (til + 1)], .int .i64 (-1)] by
          simp [tokV, visK, visM, visG, visN, visE, j1, j2, j3, hq, Gk.v, Gm.v])
        rw [RV.out]
        unfold Gk.v Gm.v
        dsimp only
        clear RV hq
        go_enter Try.func44, Try.ntmps44
        go_wp2_with (first | (go_at_call 65; refine (never_ex mb n til _ i1).mono ?_; rintro x wz ⟨rfl, rfl⟩) | (go_at_call 69; refine (tally_ex ⟨_, _, _, _⟩ _).mono ?_; rintro x wz ⟨rfl, rfl⟩; dsimp only) | (go_at_call 70; refine (colourOf_ex tr _ hr9).mono ?_; rintro x wz ⟨rfl, rfl⟩) | (go_at_call 71; refine (other_ex _ _ (by omega)).mono ?_; rintro x wz ⟨rfl, rfl⟩))
        go_region
        go_wp2_with (first | (go_at_call 65; refine (never_ex mb n til _ i1).mono ?_; rintro x wz ⟨rfl, rfl⟩) | (go_at_call 69; refine (tally_ex ⟨_, _, _, _⟩ _).mono ?_; rintro x wz ⟨rfl, rfl⟩; dsimp only) | (go_at_call 70; refine (colourOf_ex tr _ hr9).mono ?_; rintro x wz ⟨rfl, rfl⟩) | (go_at_call 71; refine (other_ex _ _ (by omega)).mono ?_; rintro x wz ⟨rfl, rfl⟩))
        go_region
        go_wp2_with (first | (go_at_call 65; refine (never_ex mb n til _ i1).mono ?_; rintro x wz ⟨rfl, rfl⟩) | (go_at_call 69; refine (tally_ex ⟨_, _, _, _⟩ _).mono ?_; rintro x wz ⟨rfl, rfl⟩; dsimp only) | (go_at_call 70; refine (colourOf_ex tr _ hr9).mono ?_; rintro x wz ⟨rfl, rfl⟩) | (go_at_call 71; refine (other_ex _ _ (by omega)).mono ?_; rintro x wz ⟨rfl, rfl⟩))
        go_region
        go_wp2
        exact bodyPost_ret (v := .tuple #[.agg #[.bool ton, .int .i64 tr, .int .i64 (ta + 1), .int .i64 (tn + gq), .int .i64 (q2)], .agg #[.int .i64 tr, .int .i64 ge, .int .i64 0, .int .i64 (til + 1)], .int .i64 (-1)]) (by simp [results, Try.results44, go_sem]) rfl ⟨rfl, by repeat (first | exact Up.refl _ | refine Up.drew ?_ | refine Up.alloc ?_ _)⟩
      · by_cases j6 : tn + gq = 0
        · have RV := Lib.hid (show tokV (visK til n ⟨ton, tr, ta, tn, tl⟩ ⟨gr, ge, gq, gl⟩ least) = .tuple #[.agg #[.bool false, .int .i64 tr, .int .i64 (0), .int .i64 (0), .int .i64 (til + 1)], .agg #[.int .i64 tr, .int .i64 ge, .int .i64 0, .int .i64 (til + 1)], .int .i64 (q2)] by
            simp [tokV, visK, visM, visG, visN, visE, j1, j2, j3, j6, hq, Gk.v, Gm.v])
          rw [RV.out]
          unfold Gk.v Gm.v
          dsimp only
          clear RV hq
          go_enter Try.func44, Try.ntmps44
          go_wp2_with (first | (go_at_call 65; refine (never_ex mb n til _ i1).mono ?_; rintro x wz ⟨rfl, rfl⟩) | (go_at_call 69; refine (tally_ex ⟨_, _, _, _⟩ _).mono ?_; rintro x wz ⟨rfl, rfl⟩; dsimp only) | (go_at_call 70; refine (colourOf_ex tr _ hr9).mono ?_; rintro x wz ⟨rfl, rfl⟩) | (go_at_call 71; refine (other_ex _ _ (by omega)).mono ?_; rintro x wz ⟨rfl, rfl⟩) | (go_at_call 72; refine (endLap_ex0 mb n til _ _ _ _ _ i1).mono ?_; rintro x wz ⟨rfl, rfl⟩))
          go_region
          go_wp2_with (first | (go_at_call 65; refine (never_ex mb n til _ i1).mono ?_; rintro x wz ⟨rfl, rfl⟩) | (go_at_call 69; refine (tally_ex ⟨_, _, _, _⟩ _).mono ?_; rintro x wz ⟨rfl, rfl⟩; dsimp only) | (go_at_call 70; refine (colourOf_ex tr _ hr9).mono ?_; rintro x wz ⟨rfl, rfl⟩) | (go_at_call 71; refine (other_ex _ _ (by omega)).mono ?_; rintro x wz ⟨rfl, rfl⟩) | (go_at_call 72; refine (endLap_ex0 mb n til _ _ _ _ _ i1).mono ?_; rintro x wz ⟨rfl, rfl⟩))
          go_region
          go_wp2_with (first | (go_at_call 65; refine (never_ex mb n til _ i1).mono ?_; rintro x wz ⟨rfl, rfl⟩) | (go_at_call 69; refine (tally_ex ⟨_, _, _, _⟩ _).mono ?_; rintro x wz ⟨rfl, rfl⟩; dsimp only) | (go_at_call 70; refine (colourOf_ex tr _ hr9).mono ?_; rintro x wz ⟨rfl, rfl⟩) | (go_at_call 71; refine (other_ex _ _ (by omega)).mono ?_; rintro x wz ⟨rfl, rfl⟩) | (go_at_call 72; refine (endLap_ex0 mb n til _ _ _ _ _ i1).mono ?_; rintro x wz ⟨rfl, rfl⟩))
          go_region
          go_wp2
          exact bodyPost_ret (v := .tuple #[.agg #[.bool false, .int .i64 tr, .int .i64 (0), .int .i64 (0), .int .i64 (til + 1)], .agg #[.int .i64 tr, .int .i64 ge, .int .i64 0, .int .i64 (til + 1)], .int .i64 (q2)]) (by simp [results, Try.results44, go_sem]) rfl ⟨rfl, by repeat (first | exact Up.refl _ | refine Up.drew ?_ | refine Up.alloc ?_ _)⟩
        · have RV := Lib.hid (show tokV (visK til n ⟨ton, tr, ta, tn, tl⟩ ⟨gr, ge, gq, gl⟩ least) = .tuple #[.agg #[.bool ton, .int .i64 tr, .int .i64 (0), .int .i64 (tn + gq), .int .i64 (til + 1)], .agg #[.int .i64 tr, .int .i64 ge, .int .i64 0, .int .i64 (til + 1)], .int .i64 (-1)] by
            simp [tokV, visK, visM, visG, visN, visE, j1, j2, j3, j6, Gk.v, Gm.v])
          rw [RV.out]
          unfold Gk.v Gm.v
          dsimp only
          clear RV hq
          go_enter Try.func44, Try.ntmps44
          go_wp2_with (first | (go_at_call 65; refine (never_ex mb n til _ i1).mono ?_; rintro x wz ⟨rfl, rfl⟩) | (go_at_call 69; refine (tally_ex ⟨_, _, _, _⟩ _).mono ?_; rintro x wz ⟨rfl, rfl⟩; dsimp only) | (go_at_call 70; refine (colourOf_ex tr _ hr9).mono ?_; rintro x wz ⟨rfl, rfl⟩) | (go_at_call 71; refine (other_ex _ _ (by omega)).mono ?_; rintro x wz ⟨rfl, rfl⟩) | (go_at_call 72; refine (endLap_ex1 mb n til _ _ _ _ _ _ i1 j6).mono ?_; rintro x wz ⟨rfl, rfl⟩))
          go_region
          go_wp2_with (first | (go_at_call 65; refine (never_ex mb n til _ i1).mono ?_; rintro x wz ⟨rfl, rfl⟩) | (go_at_call 69; refine (tally_ex ⟨_, _, _, _⟩ _).mono ?_; rintro x wz ⟨rfl, rfl⟩; dsimp only) | (go_at_call 70; refine (colourOf_ex tr _ hr9).mono ?_; rintro x wz ⟨rfl, rfl⟩) | (go_at_call 71; refine (other_ex _ _ (by omega)).mono ?_; rintro x wz ⟨rfl, rfl⟩) | (go_at_call 72; refine (endLap_ex1 mb n til _ _ _ _ _ _ i1 j6).mono ?_; rintro x wz ⟨rfl, rfl⟩))
          go_region
          go_wp2_with (first | (go_at_call 65; refine (never_ex mb n til _ i1).mono ?_; rintro x wz ⟨rfl, rfl⟩) | (go_at_call 69; refine (tally_ex ⟨_, _, _, _⟩ _).mono ?_; rintro x wz ⟨rfl, rfl⟩; dsimp only) | (go_at_call 70; refine (colourOf_ex tr _ hr9).mono ?_; rintro x wz ⟨rfl, rfl⟩) | (go_at_call 71; refine (other_ex _ _ (by omega)).mono ?_; rintro x wz ⟨rfl, rfl⟩) | (go_at_call 72; refine (endLap_ex1 mb n til _ _ _ _ _ _ i1 j6).mono ?_; rintro x wz ⟨rfl, rfl⟩))
          go_region
          go_wp2
          exact bodyPost_ret (v := .tuple #[.agg #[.bool ton, .int .i64 tr, .int .i64 (0), .int .i64 (tn + gq), .int .i64 (til + 1)], .agg #[.int .i64 tr, .int .i64 ge, .int .i64 0, .int .i64 (til + 1)], .int .i64 (-1)]) (by simp [results, Try.results44, go_sem]) rfl ⟨rfl, by repeat (first | exact Up.refl _ | refine Up.drew ?_ | refine Up.alloc ?_ _)⟩
  · obtain ⟨q1, hq1⟩ : ∃ q, (if least < tl then least else tl) = q := ⟨_, rfl⟩
    obtain ⟨q2, hq2⟩ : ∃ q, (if gl < q1 then gl else q1) = q := ⟨_, rfl⟩
    have hq : min tl (min least (gl)) = q2 := by
      rw [← hq2, ← hq1]
      repeat' split
      all_goals omega
    have hmn : ∀ W : World, (Builtin.min_ #[3, 3, 3] 3 #[.int .i64 tl, .int .i64 least, .int .i64 (gl)]).run Try.prog W = .ok (.int .i64 q2) W := fun W => by
      rw [← hq2, ← hq1]
      simp [Builtin.min_, Builtin.min2]
    by_cases j2 : tr % 2 = 1
    · by_cases j3 : ta + 1 < (n : Int)
      · have RV := Lib.hid (show tokV (visK til n ⟨ton, tr, ta, tn, tl⟩ ⟨gr, ge, gq, gl⟩ least) = .tuple #[.agg #[.bool ton, .int .i64 tr, .int .i64 (ta + 1), .int .i64 (tn + ge), .int .i64 (q2)], .agg #[.int .i64 gr, .int .i64 0, .int .i64 gq, .int .i64 (gl)], .int .i64 (-1)] by
          simp [tokV, visK, visM, visG, visN, visE, j1, j2, j3, hq, Gk.v, Gm.v])
        rw [RV.out]
        unfold Gk.v Gm.v
        dsimp only
        clear RV hq
        go_enter Try.func44, Try.ntmps44
        go_wp2_with (first | (go_at_call 65; refine (never_ex mb n til _ i1).mono ?_; rintro x wz ⟨rfl, rfl⟩) | (go_at_call 69; refine (tally_ex ⟨_, _, _, _⟩ _).mono ?_; rintro x wz ⟨rfl, rfl⟩; dsimp only) | (go_at_call 70; refine (colourOf_ex tr _ hr9).mono ?_; rintro x wz ⟨rfl, rfl⟩) | (go_at_call 71; refine (other_ex _ _ (by omega)).mono ?_; rintro x wz ⟨rfl, rfl⟩))
        go_region
        go_wp2_with (first | (go_at_call 65; refine (never_ex mb n til _ i1).mono ?_; rintro x wz ⟨rfl, rfl⟩) | (go_at_call 69; refine (tally_ex ⟨_, _, _, _⟩ _).mono ?_; rintro x wz ⟨rfl, rfl⟩; dsimp only) | (go_at_call 70; refine (colourOf_ex tr _ hr9).mono ?_; rintro x wz ⟨rfl, rfl⟩) | (go_at_call 71; refine (other_ex _ _ (by omega)).mono ?_; rintro x wz ⟨rfl, rfl⟩))
        go_region
        go_wp2_with (first | (go_at_call 65; refine (never_ex mb n til _ i1).mono ?_; rintro x wz ⟨rfl, rfl⟩) | (go_at_call 69; refine (tally_ex ⟨_, _, _, _⟩ _).mono ?_; rintro x wz ⟨rfl, rfl⟩; dsimp only) | (go_at_call 70; refine (colourOf_ex tr _ hr9).mono ?_; rintro x wz ⟨rfl, rfl⟩) | (go_at_call 71; refine (other_ex _ _ (by omega)).mono ?_; rintro x wz ⟨rfl, rfl⟩))
        go_region
        go_wp2
        exact bodyPost_ret (v := .tuple #[.agg #[.bool ton, .int .i64 tr, .int .i64 (ta + 1), .int .i64 (tn + ge), .int .i64 (q2)], .agg #[.int .i64 gr, .int .i64 0, .int .i64 gq, .int .i64 (gl)], .int .i64 (-1)]) (by simp [results, Try.results44, go_sem]) rfl ⟨rfl, by repeat (first | exact Up.refl _ | refine Up.drew ?_ | refine Up.alloc ?_ _)⟩
      · by_cases j6 : tn + ge = 0
        · have RV := Lib.hid (show tokV (visK til n ⟨ton, tr, ta, tn, tl⟩ ⟨gr, ge, gq, gl⟩ least) = .tuple #[.agg #[.bool false, .int .i64 tr, .int .i64 (0), .int .i64 (0), .int .i64 (til + 1)], .agg #[.int .i64 gr, .int .i64 0, .int .i64 gq, .int .i64 (gl)], .int .i64 (q2)] by
            simp [tokV, visK, visM, visG, visN, visE, j1, j2, j3, j6, hq, Gk.v, Gm.v])
          rw [RV.out]
          unfold Gk.v Gm.v
          dsimp only
          clear RV hq
          go_enter Try.func44, Try.ntmps44
          go_wp2_with (first | (go_at_call 65; refine (never_ex mb n til _ i1).mono ?_; rintro x wz ⟨rfl, rfl⟩) | (go_at_call 69; refine (tally_ex ⟨_, _, _, _⟩ _).mono ?_; rintro x wz ⟨rfl, rfl⟩; dsimp only) | (go_at_call 70; refine (colourOf_ex tr _ hr9).mono ?_; rintro x wz ⟨rfl, rfl⟩) | (go_at_call 71; refine (other_ex _ _ (by omega)).mono ?_; rintro x wz ⟨rfl, rfl⟩) | (go_at_call 72; refine (endLap_ex0 mb n til _ _ _ _ _ i1).mono ?_; rintro x wz ⟨rfl, rfl⟩))
          go_region
          go_wp2_with (first | (go_at_call 65; refine (never_ex mb n til _ i1).mono ?_; rintro x wz ⟨rfl, rfl⟩) | (go_at_call 69; refine (tally_ex ⟨_, _, _, _⟩ _).mono ?_; rintro x wz ⟨rfl, rfl⟩; dsimp only) | (go_at_call 70; refine (colourOf_ex tr _ hr9).mono ?_; rintro x wz ⟨rfl, rfl⟩) | (go_at_call 71; refine (other_ex _ _ (by omega)).mono ?_; rintro x wz ⟨rfl, rfl⟩) | (go_at_call 72; refine (endLap_ex0 mb n til _ _ _ _ _ i1).mono ?_; rintro x wz ⟨rfl, rfl⟩))
          go_region
          go_wp2_with (first | (go_at_call 65; refine (never_ex mb n til _ i1).mono ?_; rintro x wz ⟨rfl, rfl⟩) | (go_at_call 69; refine (tally_ex ⟨_, _, _, _⟩ _).mono ?_; rintro x wz ⟨rfl, rfl⟩; dsimp only) | (go_at_call 70; refine (colourOf_ex tr _ hr9).mono ?_; rintro x wz ⟨rfl, rfl⟩) | (go_at_call 71; refine (other_ex _ _ (by omega)).mono ?_; rintro x wz ⟨rfl, rfl⟩) | (go_at_call 72; refine (endLap_ex0 mb n til _ _ _ _ _ i1).mono ?_; rintro x wz ⟨rfl, rfl⟩))
          go_region
          go_wp2
          exact bodyPost_ret (v := .tuple #[.agg #[.bool false, .int .i64 tr, .int .i64 (0), .int .i64 (0), .int .i64 (til + 1)], .agg #[.int .i64 gr, .int .i64 0, .int .i64 gq, .int .i64 (gl)], .int .i64 (q2)]) (by simp [results, Try.results44, go_sem]) rfl ⟨rfl, by repeat (first | exact Up.refl _ | refine Up.drew ?_ | refine Up.alloc ?_ _)⟩
        · have RV := Lib.hid (show tokV (visK til n ⟨ton, tr, ta, tn, tl⟩ ⟨gr, ge, gq, gl⟩ least) = .tuple #[.agg #[.bool ton, .int .i64 tr, .int .i64 (0), .int .i64 (tn + ge), .int .i64 (til + 1)], .agg #[.int .i64 gr, .int .i64 0, .int .i64 gq, .int .i64 (gl)], .int .i64 (-1)] by
            simp [tokV, visK, visM, visG, visN, visE, j1, j2, j3, j6, Gk.v, Gm.v])
          rw [RV.out]
          unfold Gk.v Gm.v
          dsimp only
          clear RV hq
          go_enter Try.func44, Try.ntmps44
          go_wp2_with (first | (go_at_call 65; refine (never_ex mb n til _ i1).mono ?_; rintro x wz ⟨rfl, rfl⟩) | (go_at_call 69; refine (tally_ex ⟨_, _, _, _⟩ _).mono ?_; rintro x wz ⟨rfl, rfl⟩; dsimp only) | (go_at_call 70; refine (colourOf_ex tr _ hr9).mono ?_; rintro x wz ⟨rfl, rfl⟩) | (go_at_call 71; refine (other_ex _ _ (by omega)).mono ?_; rintro x wz ⟨rfl, rfl⟩) | (go_at_call 72; refine (endLap_ex1 mb n til _ _ _ _ _ _ i1 j6).mono ?_; rintro x wz ⟨rfl, rfl⟩))
          go_region
          go_wp2_with (first | (go_at_call 65; refine (never_ex mb n til _ i1).mono ?_; rintro x wz ⟨rfl, rfl⟩) | (go_at_call 69; refine (tally_ex ⟨_, _, _, _⟩ _).mono ?_; rintro x wz ⟨rfl, rfl⟩; dsimp only) | (go_at_call 70; refine (colourOf_ex tr _ hr9).mono ?_; rintro x wz ⟨rfl, rfl⟩) | (go_at_call 71; refine (other_ex _ _ (by omega)).mono ?_; rintro x wz ⟨rfl, rfl⟩) | (go_at_call 72; refine (endLap_ex1 mb n til _ _ _ _ _ _ i1 j6).mono ?_; rintro x wz ⟨rfl, rfl⟩))
          go_region
          go_wp2_with (first | (go_at_call 65; refine (never_ex mb n til _ i1).mono ?_; rintro x wz ⟨rfl, rfl⟩) | (go_at_call 69; refine (tally_ex ⟨_, _, _, _⟩ _).mono ?_; rintro x wz ⟨rfl, rfl⟩; dsimp only) | (go_at_call 70; refine (colourOf_ex tr _ hr9).mono ?_; rintro x wz ⟨rfl, rfl⟩) | (go_at_call 71; refine (other_ex _ _ (by omega)).mono ?_; rintro x wz ⟨rfl, rfl⟩) | (go_at_call 72; refine (endLap_ex1 mb n til _ _ _ _ _ _ i1 j6).mono ?_; rintro x wz ⟨rfl, rfl⟩))
          go_region
          go_wp2
          exact bodyPost_ret (v := .tuple #[.agg #[.bool ton, .int .i64 tr, .int .i64 (0), .int .i64 (tn + ge), .int .i64 (til + 1)], .agg #[.int .i64 gr, .int .i64 0, .int .i64 gq, .int .i64 (gl)], .int .i64 (-1)]) (by simp [results, Try.results44, go_sem]) rfl ⟨rfl, by repeat (first | exact Up.refl _ | refine Up.drew ?_ | refine Up.alloc ?_ _)⟩
    · have j2z : tr % 2 = 0 := by omega
      by_cases j3 : ta + 1 < (n : Int)
      · have RV := Lib.hid (show tokV (visK til n ⟨ton, tr, ta, tn, tl⟩ ⟨gr, ge, gq, gl⟩ least) = .tuple #[.agg #[.bool ton, .int .i64 tr, .int .i64 (ta + 1), .int .i64 (tn + gq), .int .i64 (q2)], .agg #[.int .i64 gr, .int .i64 ge, .int .i64 0, .int .i64 (gl)], .int .i64 (-1)] by
          simp [tokV, visK, visM, visG, visN, visE, j1, j2, j3, hq, Gk.v, Gm.v])
        rw [RV.out]
        unfold Gk.v Gm.v
        dsimp only
        clear RV hq
        go_enter Try.func44, Try.ntmps44
        go_wp2_with (first | (go_at_call 65; refine (never_ex mb n til _ i1).mono ?_; rintro x wz ⟨rfl, rfl⟩) | (go_at_call 69; refine (tally_ex ⟨_, _, _, _⟩ _).mono ?_; rintro x wz ⟨rfl, rfl⟩; dsimp only) | (go_at_call 70; refine (colourOf_ex tr _ hr9).mono ?_; rintro x wz ⟨rfl, rfl⟩) | (go_at_call 71; refine (other_ex _ _ (by omega)).mono ?_; rintro x wz ⟨rfl, rfl⟩))
        go_region
        go_wp2_with (first | (go_at_call 65; refine (never_ex mb n til _ i1).mono ?_; rintro x wz ⟨rfl, rfl⟩) | (go_at_call 69; refine (tally_ex ⟨_, _, _, _⟩ _).mono ?_; rintro x wz ⟨rfl, rfl⟩; dsimp only) | (go_at_call 70; refine (colourOf_ex tr _ hr9).mono ?_; rintro x wz ⟨rfl, rfl⟩) | (go_at_call 71; refine (other_ex _ _ (by omega)).mono ?_; rintro x wz ⟨rfl, rfl⟩))
        go_region
        go_wp2_with (first | (go_at_call 65; refine (never_ex mb n til _ i1).mono ?_; rintro x wz ⟨rfl, rfl⟩) | (go_at_call 69; refine (tally_ex ⟨_, _, _, _⟩ _).mono ?_; rintro x wz ⟨rfl, rfl⟩; dsimp only) | (go_at_call 70; refine (colourOf_ex tr _ hr9).mono ?_; rintro x wz ⟨rfl, rfl⟩) | (go_at_call 71; refine (other_ex _ _ (by omega)).mono ?_; rintro x wz ⟨rfl, rfl⟩))
        go_region
        go_wp2
        exact bodyPost_ret (v := .tuple #[.agg #[.bool ton, .int .i64 tr, .int .i64 (ta + 1), .int .i64 (tn + gq), .int .i64 (q2)], .agg #[.int .i64 gr, .int .i64 ge, .int .i64 0, .int .i64 (gl)], .int .i64 (-1)]) (by simp [results, Try.results44, go_sem]) rfl ⟨rfl, by repeat (first | exact Up.refl _ | refine Up.drew ?_ | refine Up.alloc ?_ _)⟩
      · by_cases j6 : tn + gq = 0
        · have RV := Lib.hid (show tokV (visK til n ⟨ton, tr, ta, tn, tl⟩ ⟨gr, ge, gq, gl⟩ least) = .tuple #[.agg #[.bool false, .int .i64 tr, .int .i64 (0), .int .i64 (0), .int .i64 (til + 1)], .agg #[.int .i64 gr, .int .i64 ge, .int .i64 0, .int .i64 (gl)], .int .i64 (q2)] by
            simp [tokV, visK, visM, visG, visN, visE, j1, j2, j3, j6, hq, Gk.v, Gm.v])
          rw [RV.out]
          unfold Gk.v Gm.v
          dsimp only
          clear RV hq
          go_enter Try.func44, Try.ntmps44
          go_wp2_with (first | (go_at_call 65; refine (never_ex mb n til _ i1).mono ?_; rintro x wz ⟨rfl, rfl⟩) | (go_at_call 69; refine (tally_ex ⟨_, _, _, _⟩ _).mono ?_; rintro x wz ⟨rfl, rfl⟩; dsimp only) | (go_at_call 70; refine (colourOf_ex tr _ hr9).mono ?_; rintro x wz ⟨rfl, rfl⟩) | (go_at_call 71; refine (other_ex _ _ (by omega)).mono ?_; rintro x wz ⟨rfl, rfl⟩) | (go_at_call 72; refine (endLap_ex0 mb n til _ _ _ _ _ i1).mono ?_; rintro x wz ⟨rfl, rfl⟩))
          go_region
          go_wp2_with (first | (go_at_call 65; refine (never_ex mb n til _ i1).mono ?_; rintro x wz ⟨rfl, rfl⟩) | (go_at_call 69; refine (tally_ex ⟨_, _, _, _⟩ _).mono ?_; rintro x wz ⟨rfl, rfl⟩; dsimp only) | (go_at_call 70; refine (colourOf_ex tr _ hr9).mono ?_; rintro x wz ⟨rfl, rfl⟩) | (go_at_call 71; refine (other_ex _ _ (by omega)).mono ?_; rintro x wz ⟨rfl, rfl⟩) | (go_at_call 72; refine (endLap_ex0 mb n til _ _ _ _ _ i1).mono ?_; rintro x wz ⟨rfl, rfl⟩))
          go_region
          go_wp2_with (first | (go_at_call 65; refine (never_ex mb n til _ i1).mono ?_; rintro x wz ⟨rfl, rfl⟩) | (go_at_call 69; refine (tally_ex ⟨_, _, _, _⟩ _).mono ?_; rintro x wz ⟨rfl, rfl⟩; dsimp only) | (go_at_call 70; refine (colourOf_ex tr _ hr9).mono ?_; rintro x wz ⟨rfl, rfl⟩) | (go_at_call 71; refine (other_ex _ _ (by omega)).mono ?_; rintro x wz ⟨rfl, rfl⟩) | (go_at_call 72; refine (endLap_ex0 mb n til _ _ _ _ _ i1).mono ?_; rintro x wz ⟨rfl, rfl⟩))
          go_region
          go_wp2
          exact bodyPost_ret (v := .tuple #[.agg #[.bool false, .int .i64 tr, .int .i64 (0), .int .i64 (0), .int .i64 (til + 1)], .agg #[.int .i64 gr, .int .i64 ge, .int .i64 0, .int .i64 (gl)], .int .i64 (q2)]) (by simp [results, Try.results44, go_sem]) rfl ⟨rfl, by repeat (first | exact Up.refl _ | refine Up.drew ?_ | refine Up.alloc ?_ _)⟩
        · have RV := Lib.hid (show tokV (visK til n ⟨ton, tr, ta, tn, tl⟩ ⟨gr, ge, gq, gl⟩ least) = .tuple #[.agg #[.bool ton, .int .i64 tr, .int .i64 (0), .int .i64 (tn + gq), .int .i64 (til + 1)], .agg #[.int .i64 gr, .int .i64 ge, .int .i64 0, .int .i64 (gl)], .int .i64 (-1)] by
            simp [tokV, visK, visM, visG, visN, visE, j1, j2, j3, j6, Gk.v, Gm.v])
          rw [RV.out]
          unfold Gk.v Gm.v
          dsimp only
          clear RV hq
          go_enter Try.func44, Try.ntmps44
          go_wp2_with (first | (go_at_call 65; refine (never_ex mb n til _ i1).mono ?_; rintro x wz ⟨rfl, rfl⟩) | (go_at_call 69; refine (tally_ex ⟨_, _, _, _⟩ _).mono ?_; rintro x wz ⟨rfl, rfl⟩; dsimp only) | (go_at_call 70; refine (colourOf_ex tr _ hr9).mono ?_; rintro x wz ⟨rfl, rfl⟩) | (go_at_call 71; refine (other_ex _ _ (by omega)).mono ?_; rintro x wz ⟨rfl, rfl⟩) | (go_at_call 72; refine (endLap_ex1 mb n til _ _ _ _ _ _ i1 j6).mono ?_; rintro x wz ⟨rfl, rfl⟩))
          go_region
          go_wp2_with (first | (go_at_call 65; refine (never_ex mb n til _ i1).mono ?_; rintro x wz ⟨rfl, rfl⟩) | (go_at_call 69; refine (tally_ex ⟨_, _, _, _⟩ _).mono ?_; rintro x wz ⟨rfl, rfl⟩; dsimp only) | (go_at_call 70; refine (colourOf_ex tr _ hr9).mono ?_; rintro x wz ⟨rfl, rfl⟩) | (go_at_call 71; refine (other_ex _ _ (by omega)).mono ?_; rintro x wz ⟨rfl, rfl⟩) | (go_at_call 72; refine (endLap_ex1 mb n til _ _ _ _ _ _ i1 j6).mono ?_; rintro x wz ⟨rfl, rfl⟩))
          go_region
          go_wp2_with (first | (go_at_call 65; refine (never_ex mb n til _ i1).mono ?_; rintro x wz ⟨rfl, rfl⟩) | (go_at_call 69; refine (tally_ex ⟨_, _, _, _⟩ _).mono ?_; rintro x wz ⟨rfl, rfl⟩; dsimp only) | (go_at_call 70; refine (colourOf_ex tr _ hr9).mono ?_; rintro x wz ⟨rfl, rfl⟩) | (go_at_call 71; refine (other_ex _ _ (by omega)).mono ?_; rintro x wz ⟨rfl, rfl⟩) | (go_at_call 72; refine (endLap_ex1 mb n til _ _ _ _ _ _ i1 j6).mono ?_; rintro x wz ⟨rfl, rfl⟩))
          go_region
          go_wp2
          exact bodyPost_ret (v := .tuple #[.agg #[.bool ton, .int .i64 tr, .int .i64 (0), .int .i64 (tn + gq), .int .i64 (til + 1)], .agg #[.int .i64 gr, .int .i64 ge, .int .i64 0, .int .i64 (gl)], .int .i64 (-1)]) (by simp [results, Try.results44, go_sem]) rfl ⟨rfl, by repeat (first | exact Up.refl _ | refine Up.drew ?_ | refine Up.alloc ?_ _)⟩

end Go.Proofs.Ytojnphchkdjafaa

namespace Go.Proofs.Ytojnphchkdjafaa
set_option maxRecDepth 100000
open Go.RowKit

set_option maxHeartbeats 8000000 in
theorem visits_any (mb : Option Nat) (many til : Int) (t : Gk) (g : Gm) (least : Int) (w : World) (h0 : 0 ≤ til ∧ til ≤ 99) (hk : gkB til many t = true) (hm : gmB til g = true) :
    Calls Try.prog 43 #[.agg #[.map mb, .int .i64 many, .int .i64 til], t.v, g.v, .int .i64 least] w fun x w' => x = .returned (.bool (mayV til t g least)) ∧ Up w w' := by
  obtain ⟨gr, ge, gq, gl⟩ := g
  obtain ⟨ton, tr, ta, tn, tl⟩ := t
  simp only [gkB, gmB, Bool.and_eq_true, inB_iff] at hk hm
  have i1 : IntKind.i64.wrap (til + 1) = til + 1 := IntWalk.i64_in _ (by omega)
  have i2 : IntKind.i64.wrap (tr - gr) = tr - gr := IntWalk.i64_in _ (by omega)
  unfold mayV Gk.v Gm.v
  dsimp only
  have C0 := Lib.hid (fun W => within_any least 0 (til + 1) W)
  have C1 := Lib.hid (fun W => within_any (tr - gr) 0 1 W)
  generalize inB least 0 (til + 1) = b0 at C0 ⊢
  generalize inB (tr - gr) 0 1 = b1 at C1 ⊢
  have CN := Lib.hid (fun W => never_any mb many til W h0)
  have X0 := Lib.hid (((Bk.new w #[.map mb, .int .i64 many, .int .i64 til] 73).alloc (.cells #[.bool ton, .int .i64 tr, .int .i64 ta, .int .i64 tn, .int .i64 tl] 32)).alloc (.cells #[.int .i64 gr, .int .i64 ge, .int .i64 gq, .int .i64 gl] 28))
  have X1 := Lib.hid ((Bk.new (w.alloc (.cells #[.map mb, .int .i64 many, .int .i64 til] 73)) #[.bool ton, .int .i64 tr, .int .i64 ta, .int .i64 tn, .int .i64 tl] 32).alloc (.cells #[.int .i64 gr, .int .i64 ge, .int .i64 gq, .int .i64 gl] 28))
  have X2 := Lib.hid (Bk.new ((w.alloc (.cells #[.map mb, .int .i64 many, .int .i64 til] 73)).alloc (.cells #[.bool ton, .int .i64 tr, .int .i64 ta, .int .i64 tn, .int .i64 tl] 32)) #[.int .i64 gr, .int .i64 ge, .int .i64 gq, .int .i64 gl] 28)
  simp only [World.size_alloc] at X1 X2
  have U := Lib.hid ((((Up.refl w).alloc (.cells #[.map mb, .int .i64 many, .int .i64 til] 73)).alloc (.cells #[.bool ton, .int .i64 tr, .int .i64 ta, .int .i64 tn, .int .i64 tl] 32)).alloc (.cells #[.int .i64 gr, .int .i64 ge, .int .i64 gq, .int .i64 gl] 28))
  clear hk hm h0 i1
  cases ton
  · simp only [Bool.false_and]
    go_enter Try.func43, Try.ntmps43
    go_wp2
    go_ret
    exact ⟨rfl, U.out⟩
  · simp only [Bool.true_and]
    go_enter Try.func43, Try.ntmps43
    go_wp2_with fail
    refine (CN.out _).mono ?_
    rintro x w1 ⟨rfl, u1⟩
    replace U := Lib.hid (U.out.trans u1)
    replace X1 := Lib.hid (X1.out.up u1)
    replace X2 := Lib.hid (X2.out.up u1)
    clear u1 X0
    go_wp2_with fail
    refine (C0.out _).mono ?_
    rintro x wz ⟨rfl, rfl⟩
    cases b0
    · go_wp2
      go_ret
      exact ⟨rfl, U.out⟩
    · have y1 := X1.out.cell (j := 1) rfl
      have x0 := X2.out.cell (j := 0) rfl
      have ly := X1.out.lt
      have lx := X2.out.lt
      go_wp2_with fail
      refine (C1.out _).mono ?_
      rintro x wz ⟨rfl, rfl⟩
      go_wp2
      go_ret
      exact ⟨rfl, U.out⟩

end Go.Proofs.Ytojnphchkdjafaa

namespace Go.Proofs.Ytojnphchkdjafaa
set_option maxRecDepth 100000
open Go.RowKit

set_option maxHeartbeats 8000000 in
theorem implVisit_any (A : Option Addr) (n c : Nat) (B : Option Addr) (k d : Nat) (m : Mdl) (t : Gk) (g : Gm) (least : Int) (w : World) (hM : MdlV w A n B k m) :
    Calls Try.prog 17 #[.agg #[.slice A n c, .slice B k d, .int .i64 m.til], t.v, g.v, .int .i64 least] w fun x w' => x = .returned (tokV (tokP m t g least)) ∧ Up w w' := by
  have CM := Lib.hid (fun W (u : Up w W) => newMachine_any A n c B k d m W (hM.up u))
  have LR := Lib.hid (show m.rules.length = n from hM.rules.1)
  have BIG := Lib.hid (fun (h : mdlB m = true) => (show (0 ≤ m.til ∧ m.til ≤ 99) ∧ (1 ≤ (m.rules.length : Int) ∧ (m.rules.length : Int) ≤ 4) ∧ (1 ≤ m.rules.length ∧ m.rules.length ≤ 4) from ⟨mdlB_til' h, by have := mdlB_few' h; omega, mdlB_few' h⟩))
  have CT := Lib.hid (fun mp W (h : mdlB m = true) => tokenOk_any mp m.rules.length m.til t W (BIG.out h).1 (BIG.out h).2.1)
  have CG := Lib.hid (fun mp W (h : mdlB m = true) => markOk_any mp m.rules.length m.til g W (BIG.out h).1 (BIG.out h).2.1)
  have CV := Lib.hid (fun mp W (h : mdlB m = true) (h2 : gkB m.til m.rules.length t = true) (h3 : gmB m.til g = true) => visits_any mp m.rules.length m.til t g least W (BIG.out h).1 h2 h3)
  have CW := Lib.hid (fun mp W (h : mdlB m = true) (h2 : gkB m.til m.rules.length t = true) (h3 : gmB m.til g = true) => visit_any mp m.rules.length m.til t g least W (BIG.out h).1 (BIG.out h).2.2 h2 h3)
  have TB := Lib.hid (show tokB m t g least = (mdlB m && gkB m.til m.rules.length t && gmB m.til g && mayV m.til t g least) from rfl)
  obtain ⟨bt, hbt⟩ : ∃ bt, bt = gkB m.til m.rules.length t := ⟨_, rfl⟩
  obtain ⟨bg, hbg⟩ : ∃ bg, bg = gmB m.til g := ⟨_, rfl⟩
  rw [← hbt, ← hbg] at TB CV CW
  rw [← hbt] at CT
  rw [← hbg] at CG
  generalize mayV m.til t g least = bv at CV TB
  obtain ⟨t0, ht0⟩ : ∃ t0, t0 = t := ⟨_, rfl⟩
  obtain ⟨g0, hg0⟩ : ∃ g0, g0 = g := ⟨_, rfl⟩
  rw [← ht0, ← hg0] at TB
  rw [show tokP m t g least = tokP m t0 g0 least by rw [ht0, hg0]]
  obtain ⟨r, hr⟩ : ∃ r, r = visK m.til m.rules.length t g least := ⟨_, rfl⟩
  rw [← hr] at CW
  have TY := Lib.hid (fun (h : tokB m t0 g0 least = true) => (show tokP m t0 g0 least = r by rw [tokP_yes h, hr, ht0, hg0]))
  clear ht0 hg0 hbt hbg hr
  obtain ⟨⟨r0, r1, r2, r3, r4⟩, ⟨s0, s1, s2, s3⟩, rb⟩ := r
  unfold tokV Gk.v Gm.v at CW
  obtain ⟨gr, ge, gq, gl⟩ := g
  obtain ⟨ton, tr, ta, tn, tl⟩ := t
  unfold Gk.v at CT CV ⊢
  unfold Gm.v at CG CV ⊢
  dsimp only at CT CG CV CW TB ⊢
  clear hM BIG
  have X0 := Lib.hid (((((Bk.new w #[.slice A n c, .slice B k d, .int .i64 m.til] 26).alloc (.cells #[.bool ton, .int .i64 tr, .int .i64 ta, .int .i64 tn, .int .i64 tl] 32)).alloc (.cells #[.int .i64 gr, .int .i64 ge, .int .i64 gq, .int .i64 gl] 28)).alloc (.cells #[.bool false, .int .i64 0, .int .i64 0, .int .i64 0, .int .i64 0] 32)).alloc (.cells #[.int .i64 0, .int .i64 0, .int .i64 0, .int .i64 0] 28))
  have X1 := Lib.hid ((((Bk.new (w.alloc (.cells #[.slice A n c, .slice B k d, .int .i64 m.til] 26)) #[.bool ton, .int .i64 tr, .int .i64 ta, .int .i64 tn, .int .i64 tl] 32).alloc (.cells #[.int .i64 gr, .int .i64 ge, .int .i64 gq, .int .i64 gl] 28)).alloc (.cells #[.bool false, .int .i64 0, .int .i64 0, .int .i64 0, .int .i64 0] 32)).alloc (.cells #[.int .i64 0, .int .i64 0, .int .i64 0, .int .i64 0] 28))
  have X2 := Lib.hid (((Bk.new ((w.alloc (.cells #[.slice A n c, .slice B k d, .int .i64 m.til] 26)).alloc (.cells #[.bool ton, .int .i64 tr, .int .i64 ta, .int .i64 tn, .int .i64 tl] 32)) #[.int .i64 gr, .int .i64 ge, .int .i64 gq, .int .i64 gl] 28).alloc (.cells #[.bool false, .int .i64 0, .int .i64 0, .int .i64 0, .int .i64 0] 32)).alloc (.cells #[.int .i64 0, .int .i64 0, .int .i64 0, .int .i64 0] 28))
  have X3 := Lib.hid ((Bk.new (((w.alloc (.cells #[.slice A n c, .slice B k d, .int .i64 m.til] 26)).alloc (.cells #[.bool ton, .int .i64 tr, .int .i64 ta, .int .i64 tn, .int .i64 tl] 32)).alloc (.cells #[.int .i64 gr, .int .i64 ge, .int .i64 gq, .int .i64 gl] 28)) #[.bool false, .int .i64 0, .int .i64 0, .int .i64 0, .int .i64 0] 32).alloc (.cells #[.int .i64 0, .int .i64 0, .int .i64 0, .int .i64 0] 28))
  have X4 := Lib.hid (Bk.new ((((w.alloc (.cells #[.slice A n c, .slice B k d, .int .i64 m.til] 26)).alloc (.cells #[.bool ton, .int .i64 tr, .int .i64 ta, .int .i64 tn, .int .i64 tl] 32)).alloc (.cells #[.int .i64 gr, .int .i64 ge, .int .i64 gq, .int .i64 gl] 28)).alloc (.cells #[.bool false, .int .i64 0, .int .i64 0, .int .i64 0, .int .i64 0] 32)) #[.int .i64 0, .int .i64 0, .int .i64 0, .int .i64 0] 28)
  simp only [World.size_alloc] at X1 X2 X3 X4
  have U0 := Lib.hid ((((((Up.refl w).alloc (.cells #[.slice A n c, .slice B k d, .int .i64 m.til] 26)).alloc (.cells #[.bool ton, .int .i64 tr, .int .i64 ta, .int .i64 tn, .int .i64 tl] 32)).alloc (.cells #[.int .i64 gr, .int .i64 ge, .int .i64 gq, .int .i64 gl] 28)).alloc (.cells #[.bool false, .int .i64 0, .int .i64 0, .int .i64 0, .int .i64 0] 32)).alloc (.cells #[.int .i64 0, .int .i64 0, .int .i64 0, .int .i64 0] 28))
  have N34 := Lib.hid (show w.heap.size + 1 + 1 + 1 ≠ w.heap.size + 1 + 1 + 1 + 1 by omega)
  have NL := Lib.hid (show w.heap.size ≤ w.heap.size + 1 + 1 + 1 ∧ w.heap.size ≤ w.heap.size + 1 + 1 + 1 + 1 by omega)
  unfold MachPost at CM
  go_enter Try.func17, Try.ntmps17
  go_wp2_with fail
  generalize (((((w.alloc (.cells #[.slice A n c, .slice B k d, .int .i64 m.til] 26)).alloc (.cells #[.bool ton, .int .i64 tr, .int .i64 ta, .int .i64 tn, .int .i64 tl] 32)).alloc (.cells #[.int .i64 gr, .int .i64 ge, .int .i64 gq, .int .i64 gl] 28)).alloc (.cells #[.bool false, .int .i64 0, .int .i64 0, .int .i64 0, .int .i64 0] 32)).alloc (.cells #[.int .i64 0, .int .i64 0, .int .i64 0, .int .i64 0] 28)) = W at *
  generalize hb4 : w.heap.size + 1 + 1 + 1 + 1 = b4 at *
  generalize hb3 : w.heap.size + 1 + 1 + 1 = b3 at *
  generalize hb2 : w.heap.size + 1 + 1 = b2 at *
  generalize hb1 : w.heap.size + 1 = b1 at *
  clear hb1 hb2 hb3 hb4
  refine (CM.out _ U0.out).mono ?_
  rintro x w1 ⟨u1, h⟩
  have U := Lib.hid (U0.out.trans u1)
  replace X0 := Lib.hid (X0.out.up u1)
  replace X1 := Lib.hid (X1.out.up u1)
  replace X2 := Lib.hid (X2.out.up u1)
  replace X3 := Lib.hid (X3.out.up u1)
  replace X4 := Lib.hid (X4.out.up u1)
  clear u1 CM
  rcases h with ⟨hm, rfl⟩ | ⟨hm, b, rfl, _, _⟩
  · replace TB := Lib.hid (show tokB m t0 g0 least = (false && bt && bg && bv) by rw [TB.out, hm])
    clear hm
    have ua := (Up.refl w1).alloc (.cells #[.map none, .int .i64 0, .int .i64 0] 73)
    replace U := Lib.hid (U.out.trans ua)
    replace X0 := Lib.hid (X0.out.up ua)
    replace X1 := Lib.hid (X1.out.up ua)
    replace X2 := Lib.hid (X2.out.up ua)
    replace X3 := Lib.hid (X3.out.up ua)
    replace X4 := Lib.hid (X4.out.up ua)
    clear ua
    have RZ := Lib.hid (show tokV (tokP m t0 g0 least) = .tuple #[.agg #[.bool false, .int .i64 0, .int .i64 0, .int .i64 0, .int .i64 0], .agg #[.int .i64 0, .int .i64 0, .int .i64 0, .int .i64 0], .int .i64 (-1)] by rw [tokP_no (by rw [TB.out]; rfl)]; rfl)
    have v30 := X3.out.cell (j := 0) rfl
    have v31 := X3.out.cell (j := 1) rfl
    have v32 := X3.out.cell (j := 2) rfl
    have v33 := X3.out.cell (j := 3) rfl
    have v34 := X3.out.cell (j := 4) rfl
    have u40 := X4.out.cell (j := 0) rfl
    have u41 := X4.out.cell (j := 1) rfl
    have u42 := X4.out.cell (j := 2) rfl
    have u43 := X4.out.cell (j := 3) rfl
    have lt3 := X3.out.lt
    have lt4 := X4.out.lt
    have ff3 := fun j => X3.out.frozen j
    have ff4 := fun j => X4.out.frozen j
    have hne := N34.out
    have hne2 := N34.out.symm
    have K := Lib.hid (putTM_at X3.out X4.out N34.out (⟨false, 0, 0, 0, 0⟩) (⟨0, 0, 0, 0⟩))
    have UE := Lib.hid (putTM_up U.out NL.out.1 NL.out.2 (⟨false, 0, 0, 0, 0⟩) (⟨0, 0, 0, 0⟩))
    unfold putTM at K UE
    dsimp only at K UE
    clear TB
    go_wp2
    obtain ⟨k0, k1, k2, k3, k4, k5, k6, k7, k8⟩ := K.out
    exact bodyPost_ret (v := .tuple #[.agg #[.bool false, .int .i64 0, .int .i64 0, .int .i64 0, .int .i64 0], .agg #[.int .i64 0, .int .i64 0, .int .i64 0, .int .i64 0], .int .i64 (-1)]) (by simp [results, Try.results17, go_sem, k0, k1, k2, k3, k4, k5, k6, k7, k8]) rfl ⟨congrArg Ending.returned RZ.out.symm, UE.out⟩
  · have PM := Lib.hid hm
    replace TB := Lib.hid (show tokB m t0 g0 least = (bt && bg && bv) by rw [TB.out, hm, Bool.true_and])
    clear hm
    have ua := (Up.refl w1).alloc (.cells #[.map (some b), .int .i64 m.rules.length, .int .i64 m.til] 73)
    have X5 := Lib.hid (Bk.new w1 #[.map (some b), .int .i64 m.rules.length, .int .i64 m.til] 73)
    replace U := Lib.hid (U.out.trans ua)
    replace X0 := Lib.hid (X0.out.up ua)
    replace X1 := Lib.hid (X1.out.up ua)
    replace X2 := Lib.hid (X2.out.up ua)
    replace X3 := Lib.hid (X3.out.up ua)
    replace X4 := Lib.hid (X4.out.up ua)
    have y10 := (X1.out).cell (j := 0) rfl
    have y11 := (X1.out).cell (j := 1) rfl
    have y12 := (X1.out).cell (j := 2) rfl
    have y13 := (X1.out).cell (j := 3) rfl
    have y14 := (X1.out).cell (j := 4) rfl
    have lt1 := X1.out.lt
    have p0 := X5.out.cell (j := 0) rfl
    have p1 := X5.out.cell (j := 1) rfl
    have p2 := X5.out.cell (j := 2) rfl
    have l5 := X5.out.lt
    clear ua
    go_wp2_with fail
    generalize w1.alloc (.cells #[.map (some b), .int .i64 m.rules.length, .int .i64 m.til] 73) = W2 at *
    generalize hb5 : w1.heap.size = b5 at *
    clear hb5
    refine (CT.out (some b) _ PM.out).mono ?_
    rintro x w2 ⟨rfl, u2⟩
    clear p0 p1 p2 l5
    clear y10 y11 y12 y13 y14 lt1
    replace U := Lib.hid (U.out.trans u2)
    replace X5 := Lib.hid (X5.out.up u2)
    replace X0 := Lib.hid (X0.out.up u2)
    replace X1 := Lib.hid (X1.out.up u2)
    replace X2 := Lib.hid (X2.out.up u2)
    replace X3 := Lib.hid (X3.out.up u2)
    replace X4 := Lib.hid (X4.out.up u2)
    clear u2 CT
    cases bt
    · have RZ := Lib.hid (show tokV (tokP m t0 g0 least) = .tuple #[.agg #[.bool false, .int .i64 0, .int .i64 0, .int .i64 0, .int .i64 0], .agg #[.int .i64 0, .int .i64 0, .int .i64 0, .int .i64 0], .int .i64 (-1)] by rw [tokP_no (by rw [TB.out]; rfl)]; rfl)
      have v30 := X3.out.cell (j := 0) rfl
      have v31 := X3.out.cell (j := 1) rfl
      have v32 := X3.out.cell (j := 2) rfl
      have v33 := X3.out.cell (j := 3) rfl
      have v34 := X3.out.cell (j := 4) rfl
      have u40 := X4.out.cell (j := 0) rfl
      have u41 := X4.out.cell (j := 1) rfl
      have u42 := X4.out.cell (j := 2) rfl
      have u43 := X4.out.cell (j := 3) rfl
      have lt3 := X3.out.lt
      have lt4 := X4.out.lt
      have ff3 := fun j => X3.out.frozen j
      have ff4 := fun j => X4.out.frozen j
      have hne := N34.out
      have hne2 := N34.out.symm
      have K := Lib.hid (putTM_at X3.out X4.out N34.out (⟨false, 0, 0, 0, 0⟩) (⟨0, 0, 0, 0⟩))
      have UE := Lib.hid (putTM_up U.out NL.out.1 NL.out.2 (⟨false, 0, 0, 0, 0⟩) (⟨0, 0, 0, 0⟩))
      unfold putTM at K UE
      dsimp only at K UE
      clear TB
      go_wp2
      obtain ⟨k0, k1, k2, k3, k4, k5, k6, k7, k8⟩ := K.out
      exact bodyPost_ret (v := .tuple #[.agg #[.bool false, .int .i64 0, .int .i64 0, .int .i64 0, .int .i64 0], .agg #[.int .i64 0, .int .i64 0, .int .i64 0, .int .i64 0], .int .i64 (-1)]) (by simp [results, Try.results17, go_sem, k0, k1, k2, k3, k4, k5, k6, k7, k8]) rfl ⟨congrArg Ending.returned RZ.out.symm, UE.out⟩
    · have p0 := X5.out.cell (j := 0) rfl
      have p1 := X5.out.cell (j := 1) rfl
      have p2 := X5.out.cell (j := 2) rfl
      have l5 := X5.out.lt
      have x20 := X2.out.cell (j := 0) rfl
      have x21 := X2.out.cell (j := 1) rfl
      have x22 := X2.out.cell (j := 2) rfl
      have x23 := X2.out.cell (j := 3) rfl
      have lt2 := X2.out.lt
      go_wp2_with fail
      refine (CG.out (some b) _ PM.out).mono ?_
      rintro x w3 ⟨rfl, u3⟩
      clear p0 p1 p2 l5
      clear x20 x21 x22 x23 lt2
      replace U := Lib.hid (U.out.trans u3)
      replace X5 := Lib.hid (X5.out.up u3)
      replace X0 := Lib.hid (X0.out.up u3)
      replace X1 := Lib.hid (X1.out.up u3)
      replace X2 := Lib.hid (X2.out.up u3)
      replace X3 := Lib.hid (X3.out.up u3)
      replace X4 := Lib.hid (X4.out.up u3)
      clear u3 CG
      cases bg
      · have RZ := Lib.hid (show tokV (tokP m t0 g0 least) = .tuple #[.agg #[.bool false, .int .i64 0, .int .i64 0, .int .i64 0, .int .i64 0], .agg #[.int .i64 0, .int .i64 0, .int .i64 0, .int .i64 0], .int .i64 (-1)] by rw [tokP_no (by rw [TB.out]; rfl)]; rfl)
        have v30 := X3.out.cell (j := 0) rfl
        have v31 := X3.out.cell (j := 1) rfl
        have v32 := X3.out.cell (j := 2) rfl
        have v33 := X3.out.cell (j := 3) rfl
        have v34 := X3.out.cell (j := 4) rfl
        have u40 := X4.out.cell (j := 0) rfl
        have u41 := X4.out.cell (j := 1) rfl
        have u42 := X4.out.cell (j := 2) rfl
        have u43 := X4.out.cell (j := 3) rfl
        have lt3 := X3.out.lt
        have lt4 := X4.out.lt
        have ff3 := fun j => X3.out.frozen j
        have ff4 := fun j => X4.out.frozen j
        have hne := N34.out
        have hne2 := N34.out.symm
        have K := Lib.hid (putTM_at X3.out X4.out N34.out (⟨false, 0, 0, 0, 0⟩) (⟨0, 0, 0, 0⟩))
        have UE := Lib.hid (putTM_up U.out NL.out.1 NL.out.2 (⟨false, 0, 0, 0, 0⟩) (⟨0, 0, 0, 0⟩))
        unfold putTM at K UE
        dsimp only at K UE
        clear TB
        go_wp2
        obtain ⟨k0, k1, k2, k3, k4, k5, k6, k7, k8⟩ := K.out
        exact bodyPost_ret (v := .tuple #[.agg #[.bool false, .int .i64 0, .int .i64 0, .int .i64 0, .int .i64 0], .agg #[.int .i64 0, .int .i64 0, .int .i64 0, .int .i64 0], .int .i64 (-1)]) (by simp [results, Try.results17, go_sem, k0, k1, k2, k3, k4, k5, k6, k7, k8]) rfl ⟨congrArg Ending.returned RZ.out.symm, UE.out⟩
      · have p0 := X5.out.cell (j := 0) rfl
        have p1 := X5.out.cell (j := 1) rfl
        have p2 := X5.out.cell (j := 2) rfl
        have l5 := X5.out.lt
        have y10 := X1.out.cell (j := 0) rfl
        have y11 := X1.out.cell (j := 1) rfl
        have y12 := X1.out.cell (j := 2) rfl
        have y13 := X1.out.cell (j := 3) rfl
        have y14 := X1.out.cell (j := 4) rfl
        have x20 := X2.out.cell (j := 0) rfl
        have x21 := X2.out.cell (j := 1) rfl
        have x22 := X2.out.cell (j := 2) rfl
        have x23 := X2.out.cell (j := 3) rfl
        have lt1 := X1.out.lt
        have lt2 := X2.out.lt
        go_wp2_with fail
        refine (CV.out (some b) _ PM.out (by first | trivial | rfl) (by first | trivial | rfl)).mono ?_
        rintro x w4 ⟨rfl, u4⟩
        clear p0 p1 p2 l5
        clear y10 y11 y12 y13 y14 x20 x21 x22 x23 lt1 lt2
        replace U := Lib.hid (U.out.trans u4)
        replace X5 := Lib.hid (X5.out.up u4)
        replace X0 := Lib.hid (X0.out.up u4)
        replace X1 := Lib.hid (X1.out.up u4)
        replace X2 := Lib.hid (X2.out.up u4)
        replace X3 := Lib.hid (X3.out.up u4)
        replace X4 := Lib.hid (X4.out.up u4)
        clear u4 CV
        cases bv
        · have RZ := Lib.hid (show tokV (tokP m t0 g0 least) = .tuple #[.agg #[.bool false, .int .i64 0, .int .i64 0, .int .i64 0, .int .i64 0], .agg #[.int .i64 0, .int .i64 0, .int .i64 0, .int .i64 0], .int .i64 (-1)] by rw [tokP_no (by rw [TB.out]; rfl)]; rfl)
          have v30 := X3.out.cell (j := 0) rfl
          have v31 := X3.out.cell (j := 1) rfl
          have v32 := X3.out.cell (j := 2) rfl
          have v33 := X3.out.cell (j := 3) rfl
          have v34 := X3.out.cell (j := 4) rfl
          have u40 := X4.out.cell (j := 0) rfl
          have u41 := X4.out.cell (j := 1) rfl
          have u42 := X4.out.cell (j := 2) rfl
          have u43 := X4.out.cell (j := 3) rfl
          have lt3 := X3.out.lt
          have lt4 := X4.out.lt
          have ff3 := fun j => X3.out.frozen j
          have ff4 := fun j => X4.out.frozen j
          have hne := N34.out
          have hne2 := N34.out.symm
          have K := Lib.hid (putTM_at X3.out X4.out N34.out (⟨false, 0, 0, 0, 0⟩) (⟨0, 0, 0, 0⟩))
          have UE := Lib.hid (putTM_up U.out NL.out.1 NL.out.2 (⟨false, 0, 0, 0, 0⟩) (⟨0, 0, 0, 0⟩))
          unfold putTM at K UE
          dsimp only at K UE
          clear TB
          go_wp2
          obtain ⟨k0, k1, k2, k3, k4, k5, k6, k7, k8⟩ := K.out
          exact bodyPost_ret (v := .tuple #[.agg #[.bool false, .int .i64 0, .int .i64 0, .int .i64 0, .int .i64 0], .agg #[.int .i64 0, .int .i64 0, .int .i64 0, .int .i64 0], .int .i64 (-1)]) (by simp [results, Try.results17, go_sem, k0, k1, k2, k3, k4, k5, k6, k7, k8]) rfl ⟨congrArg Ending.returned RZ.out.symm, UE.out⟩
        · have RY := Lib.hid (show tokV (tokP m t0 g0 least) = .tuple #[.agg #[.bool r0, .int .i64 r1, .int .i64 r2, .int .i64 r3, .int .i64 r4], .agg #[.int .i64 s0, .int .i64 s1, .int .i64 s2, .int .i64 s3], .int .i64 rb] by rw [TY.out (by rw [TB.out]; rfl)]; rfl)
          clear TB TY
          have p0 := X5.out.cell (j := 0) rfl
          have p1 := X5.out.cell (j := 1) rfl
          have p2 := X5.out.cell (j := 2) rfl
          have l5 := X5.out.lt
          have y10 := X1.out.cell (j := 0) rfl
          have y11 := X1.out.cell (j := 1) rfl
          have y12 := X1.out.cell (j := 2) rfl
          have y13 := X1.out.cell (j := 3) rfl
          have y14 := X1.out.cell (j := 4) rfl
          have x20 := X2.out.cell (j := 0) rfl
          have x21 := X2.out.cell (j := 1) rfl
          have x22 := X2.out.cell (j := 2) rfl
          have x23 := X2.out.cell (j := 3) rfl
          have lt1 := X1.out.lt
          have lt2 := X2.out.lt
          go_wp2_with fail
          refine (CW.out (some b) _ PM.out (by first | trivial | rfl) (by first | trivial | rfl)).mono ?_
          rintro x w5 ⟨rfl, u5⟩
          clear p0 p1 p2 l5
          clear y10 y11 y12 y13 y14 x20 x21 x22 x23 lt1 lt2
          replace U := Lib.hid (U.out.trans u5)
          replace X0 := Lib.hid (X0.out.up u5)
          replace X1 := Lib.hid (X1.out.up u5)
          replace X2 := Lib.hid (X2.out.up u5)
          replace X3 := Lib.hid (X3.out.up u5)
          replace X4 := Lib.hid (X4.out.up u5)
          clear u5 CW
          have v30 := X3.out.cell (j := 0) rfl
          have v31 := X3.out.cell (j := 1) rfl
          have v32 := X3.out.cell (j := 2) rfl
          have v33 := X3.out.cell (j := 3) rfl
          have v34 := X3.out.cell (j := 4) rfl
          have u40 := X4.out.cell (j := 0) rfl
          have u41 := X4.out.cell (j := 1) rfl
          have u42 := X4.out.cell (j := 2) rfl
          have u43 := X4.out.cell (j := 3) rfl
          have lt3 := X3.out.lt
          have lt4 := X4.out.lt
          have ff3 := fun j => X3.out.frozen j
          have ff4 := fun j => X4.out.frozen j
          have hne := N34.out
          have hne2 := N34.out.symm
          have K := Lib.hid (putTM_at X3.out X4.out N34.out (⟨r0, r1, r2, r3, r4⟩) (⟨s0, s1, s2, s3⟩))
          have UE := Lib.hid (putTM_up U.out NL.out.1 NL.out.2 (⟨r0, r1, r2, r3, r4⟩) (⟨s0, s1, s2, s3⟩))
          unfold putTM at K UE
          dsimp only at K UE
          go_wp2
          obtain ⟨k0, k1, k2, k3, k4, k5, k6, k7, k8⟩ := K.out
          exact bodyPost_ret (v := .tuple #[.agg #[.bool r0, .int .i64 r1, .int .i64 r2, .int .i64 r3, .int .i64 r4], .agg #[.int .i64 s0, .int .i64 s1, .int .i64 s2, .int .i64 s3], .int .i64 rb]) (by simp [results, Try.results17, go_sem, k0, k1, k2, k3, k4, k5, k6, k7, k8]) rfl ⟨congrArg Ending.returned RY.out.symm, UE.out⟩

end Go.Proofs.Ytojnphchkdjafaa

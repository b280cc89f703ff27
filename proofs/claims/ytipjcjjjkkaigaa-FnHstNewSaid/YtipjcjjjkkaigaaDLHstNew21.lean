/-
  Which hosts that have done nothing are valid, in one sentence: those whose items are in order and for the component; for every machine and every such host that lies in memory.
  What impl.HstOk says of a host that has done nothing, in one sentence: it is one, where the model and the component are; for every such host that lies in memory.
-/
import Derived.Test.YtipjcjjjkkaigaaDLHstNew07
import Derived.Test.YtipjcjjjkkaigaaDLHstNew15
import Derived.Test.YtipjcjjjkkaigaaDLHstNew17
import Derived.Test.YtipjcjjjkkaigaaDLHstNew19
import Derived.Test.YtipjcjjjkkaigaaDLHstNew20
namespace Go.Proofs.Ytipjcjjjkkaigaa
set_option maxRecDepth 100000
open Go.RowKit
set_option maxHeartbeats 4000000 in
theorem itemsFor_any (mp : Option Nat) (many til comp : Int) (A : Option Addr) (n c : Nat) (xs : List Rec) (w : World) (hn : n ≤ 4194304) (hE : Recs w A n xs) :
    Calls Try.prog 102 #[.agg #[.map mp, .int .i64 many, .int .i64 til], .int .i64 comp, .slice A n c] w fun z w' => z = .returned (.bool (riseT xs && xs.all (itemForB many til comp))) ∧ Up w w' := by
  have HE := Lib.hid hE
  have CA := Lib.hid (fun W (u : Up w W) => ascI_any A n c xs W (by omega) (hE.up u))
  have CE := Lib.hid (fun bM bC W (u : Up w W) hM hC => everyI_any A n c xs mp many til comp bM bC W hn (hE.up u) hM hC)
  generalize riseT xs = b1 at CA ⊢
  generalize xs.all (itemForB many til comp) = b2 at CE ⊢
  have X0 := Lib.hid ((Blk.new w #[.map mp, .int .i64 many, .int .i64 til] 118).alloc (.cells #[.int .i64 comp] 3))
  have X1 := Lib.hid (Blk.new (w.alloc (.cells #[.map mp, .int .i64 many, .int .i64 til] 118)) #[.int .i64 comp] 3)
  simp only [World.size_alloc] at X1
  have U := Lib.hid (((Up.refl w).alloc (.cells #[.map mp, .int .i64 many, .int .i64 til] 118)).alloc (.cells #[.int .i64 comp] 3))
  clear hE
  go_enter Try.func102, Try.ntmps102
  go_wp2_with fail
  refine (CA.out _ U.out).mono ?_; rintro v w1 ⟨rfl, u1⟩
  have X0 := Lib.hid (X0.out.up u1)
  have X1 := Lib.hid (X1.out.up u1)
  have U := Lib.hid (U.out.trans u1)
  clear u1
  cases b1
  · go_wp2
    go_ret
    exact ⟨rfl, U.out⟩
  · go_wp2_with fail
    refine (CE.out _ _ _ U.out X0.out X1.out).mono ?_; rintro v w2 ⟨rfl, u2⟩
    have U := Lib.hid (U.out.trans u2)
    clear u2; go_wp2; go_ret
    exact ⟨ret_bool (by simp), U.out⟩
theorem itemsOf_no (A : Option Addr) (c : Nat) (w : World) :
    Calls Try.prog 104 #[.slice A 0 c] w fun x w' => ∃ g, x = .returned (.slice (some ⟨g, 0, none⟩) 0 0) ∧ Up w w' := by
  obtain ⟨i0, hi, hz0, hz1, hz2⟩ := info_parts info53
  have hmk := fun W => run_make_rowN (P := Try.prog) 30 53 i0 _ Try.underlying30 hi hz0 .i64 .i64 0 0 (Nat.le_refl _) (by rw [hz2]; omega) (by omega) W
  rw [hz1] at hmk; clear hi hz0 hz1 hz2; simp only [Int.natCast_zero] at hmk
  go_enter Try.func104, Try.ntmps104
  go_wp2
  go_loopw [11] (fun i wr => i = .int .i64 0 ∧ Up w wr) (fun _ _ => 0)
  case atStart => exact ⟨rfl, (Up.refl _).alloc _⟩
  case round =>
    obtain ⟨rfl, u⟩ := hrel; go_wp2; go_ret
    exact ⟨_, rfl, u⟩
theorem everyKp_no (A : Option Addr) (c : Nat) (F : Value) (w : World) :
    Calls Try.prog 105 #[.slice A 0 c, F] w fun x w' => x = .returned (.bool true) ∧ Up w w' := by
  go_enter Try.func105, Try.ntmps105
  go_wp2
  go_loopw [9] (fun i wr => i = .int .i64 0 ∧ Up w wr) (fun _ _ => 0)
  case atStart => exact ⟨rfl, Up.refl _⟩
  case round =>
    obtain ⟨rfl, u⟩ := hrel; go_wp2; go_ret
    exact ⟨rfl, u⟩
theorem explains_no (mp : Option Nat) (many til : Int) (A : Option Addr) (n c : Nat) (w : World) :
    Calls Try.prog 108 #[.agg #[.map mp, .int .i64 many, .int .i64 til], .agg #[.int .i64 0, .int .i64 0, .int .i64 0, .int .i64 0, .slice none 0 0, .slice A n c, .slice none 0 0, .slice none 0 0]] w fun x w' => x = .returned (.bool true) ∧ Up w w' := by
  have U := Lib.hid (((Up.refl w).alloc (.cells #[.map mp, .int .i64 many, .int .i64 til] 118)).alloc (.cells #[.int .i64 0, .int .i64 0, .int .i64 0, .int .i64 0, .slice none 0 0, .slice A n c, .slice none 0 0, .slice none 0 0] 33))
  go_enter Try.func108, Try.ntmps108
  go_wp2
  go_loopw [11] (fun i wr => i = .int .i64 0 ∧ Up w wr) (fun _ _ => 0)
  case atStart => exact ⟨rfl, U.out⟩
  case round =>
    obtain ⟨rfl, u⟩ := hrel; go_wp2; go_ret
    exact ⟨rfl, u⟩
set_option maxHeartbeats 8000000 in
theorem hosts_no (mp : Option Nat) (many til comp : Int) (A : Option Addr) (n c : Nat) (xs : List Rec) (w : World) (hn : n ≤ 1048576) (hE : Recs w A n xs) (hc : inB comp 0 (many - 1) = true) (hm : 0 ≤ many ∧ many ≤ 4) (hr : riseT xs = true) (ha : xs.all (itemForB many til comp) = true) :
    Calls Try.prog 67 #[.agg #[.map mp, .int .i64 many, .int .i64 til], .int .i64 comp, .agg #[.int .i64 0, .int .i64 0, .int .i64 0, .int .i64 0, .slice none 0 0, .slice A n c, .slice none 0 0, .slice none 0 0]] w fun x w' => x = .returned (.bool true) ∧ Up w w' := by
  have CO := Lib.hid (fun W => itemsOf_no none 0 W)
  have CC := Lib.hid (fun W g (u : Up w W) => concatI2 (some ⟨g, 0, none⟩) 0 0 [] A n c xs W ⟨rfl, fun h => absurd h (by omega)⟩ (hE.up u) (by omega))
  unfold NewIt at CC; rw [List.nil_append, hE.1] at CC
  have CI := Lib.hid (fun A c W (h : Recs W A n xs) => itemsFor_any mp many til comp A n c xs W (by omega) h)
  rw [hr, ha] at CI
  have CJ := Lib.hid (fun W => itemsFor_any mp many til comp none 0 0 [] W (by omega) (Recs.none_ W))
  have CK := Lib.hid (fun F W => everyKp_no none 0 F W)
  have CX := Lib.hid (fun W => explains_no mp many til A n c W)
  have CS := Lib.hid (fun W => implCst_any ⟨0, 0, 0⟩ W)
  have CW := Lib.hid (fun W => within_any comp 0 (many - 1) W)
  rw [hc] at CW
  have CV := Lib.hid (fun W => within_any 0 0 9999 W)
  have hw : IntKind.i64.wrap (many - 1) = many - 1 := IntWalk.i64_in _ (by omega)
  clear hE hr ha hc
  have X0 := Lib.hid (((Blk.new w #[.map mp, .int .i64 many, .int .i64 til] 118).alloc (.cells #[.int .i64 comp] 3)).alloc (.cells #[.int .i64 0, .int .i64 0, .int .i64 0, .int .i64 0, .slice none 0 0, .slice A n c, .slice none 0 0, .slice none 0 0] 33))
  have X1 := Lib.hid ((Blk.new (w.alloc (.cells #[.map mp, .int .i64 many, .int .i64 til] 118)) #[.int .i64 comp] 3).alloc (.cells #[.int .i64 0, .int .i64 0, .int .i64 0, .int .i64 0, .slice none 0 0, .slice A n c, .slice none 0 0, .slice none 0 0] 33))
  have X2 := Lib.hid (Blk.new ((w.alloc (.cells #[.map mp, .int .i64 many, .int .i64 til] 118)).alloc (.cells #[.int .i64 comp] 3)) #[.int .i64 0, .int .i64 0, .int .i64 0, .int .i64 0, .slice none 0 0, .slice A n c, .slice none 0 0, .slice none 0 0] 33)
  simp only [World.size_alloc] at X1 X2
  have U := Lib.hid ((((Up.refl w).alloc (.cells #[.map mp, .int .i64 many, .int .i64 til] 118)).alloc (.cells #[.int .i64 comp] 3)).alloc (.cells #[.int .i64 0, .int .i64 0, .int .i64 0, .int .i64 0, .slice none 0 0, .slice A n c, .slice none 0 0, .slice none 0 0] 33))
  go_enter Try.func67, Try.ntmps67
  go_wp2_with fail
  generalize ((w.alloc (.cells #[.map mp, .int .i64 many, .int .i64 til] 118)).alloc (.cells #[.int .i64 comp] 3)).alloc (.cells #[.int .i64 0, .int .i64 0, .int .i64 0, .int .i64 0, .slice none 0 0, .slice A n c, .slice none 0 0, .slice none 0 0] 33) = W at *
  generalize hb2 : w.heap.size + 1 + 1 = b2 at *
  generalize hb1 : w.heap.size + 1 = b1 at *
  generalize hb0 : w.heap.size = b0 at *
  clear hb0 hb1 hb2; refine region_mixH (fun w' => Up W w') [(0, true), (1, true), (2, true), (3, true), (4, false), (5, true), (6, true), (7, true), (8, false), (9, true), (10, true), (11, true), (12, true), (13, false), (14, true), (15, true), (16, true), (17, true), (18, true), (19, true), (21, true), (22, true), (20, false), (23, false), (24, false), (25, false), (26, true), (27, true), (28, true), (29, true), (30, true), (31, true), (32, false), (33, true), (34, true), (35, true), (36, true), (37, true), (38, false), (39, true), (40, true), (41, true), (42, true), (43, false), (44, true), (45, true)] (by kernel_rfl) (by kernel_rfl) (Up.refl _).drew ?_
  refine mixH_take rfl (by rfl) ?_; apply Exists.intro; refine ⟨fun w1 hS1 => ?_, ?_⟩
  · obtain ⟨m0, m1, m2⟩ := And.intro ((X0.out.up hS1).cell (j := 0) rfl) (And.intro ((X0.out.up hS1).cell (j := 1) rfl) ((X0.out.up hS1).cell (j := 2) rfl))
    have c0 := (X1.out.up hS1).cell (j := 0) rfl
    have h0 := (X2.out.up hS1).cell (j := 0) rfl
    have h1 := (X2.out.up hS1).cell (j := 1) rfl
    have h2 := (X2.out.up hS1).cell (j := 2) rfl
    have h3 := (X2.out.up hS1).cell (j := 3) rfl
    have h4 := (X2.out.up hS1).cell (j := 4) rfl
    have h5 := (X2.out.up hS1).cell (j := 5) rfl
    have h6 := (X2.out.up hS1).cell (j := 6) rfl
    have h7 := (X2.out.up hS1).cell (j := 7) rfl
    have l0 := (X0.out.up hS1).lt
    have l1 := (X1.out.up hS1).lt
    have l2 := (X2.out.up hS1).lt
    clear hS1; go_simp
    try rfl
  go_simp; refine mixH_take rfl (by rfl) ?_; apply Exists.intro; refine ⟨fun w1 hS1 => ?_, ?_⟩
  · clear hS1
    go_simp
    try rfl
  go_simp; refine mixH_take rfl (by rfl) ?_; apply Exists.intro; refine ⟨fun w1 hS1 => ?_, ?_⟩
  · obtain ⟨m0, m1, m2⟩ := And.intro ((X0.out.up hS1).cell (j := 0) rfl) (And.intro ((X0.out.up hS1).cell (j := 1) rfl) ((X0.out.up hS1).cell (j := 2) rfl))
    have c0 := (X1.out.up hS1).cell (j := 0) rfl
    have h0 := (X2.out.up hS1).cell (j := 0) rfl
    have h1 := (X2.out.up hS1).cell (j := 1) rfl
    have h2 := (X2.out.up hS1).cell (j := 2) rfl
    have h3 := (X2.out.up hS1).cell (j := 3) rfl
    have h4 := (X2.out.up hS1).cell (j := 4) rfl
    have h5 := (X2.out.up hS1).cell (j := 5) rfl
    have h6 := (X2.out.up hS1).cell (j := 6) rfl
    have h7 := (X2.out.up hS1).cell (j := 7) rfl
    have l0 := (X0.out.up hS1).lt
    have l1 := (X1.out.up hS1).lt
    have l2 := (X2.out.up hS1).lt
    clear hS1; go_simp
    try rfl
  go_simp; refine mixH_take rfl (by rfl) ?_; apply Exists.intro; refine ⟨fun w1 hS1 => ?_, ?_⟩
  · clear hS1
    go_simp
    try rfl
  go_simp; refine mixH_go rfl (by rfl) (fun K hK => ?_); go_simp; refine (CW.out _).mono ?_; rintro x w2 ⟨rfl, rfl⟩; refine hK _ _ (Up.refl _).drew ?_; clear hK K; go_simp; refine mixH_take rfl (by rfl) ?_; apply Exists.intro; refine ⟨fun w1 hS1 => ?_, ?_⟩
  · clear hS1
    go_simp
    try rfl
  go_simp; refine mixH_take rfl (by rfl) ?_; apply Exists.intro; refine ⟨fun w1 hS1 => ?_, ?_⟩
  · clear hS1
    go_simp
    try rfl
  go_simp; refine mixH_take rfl (by rfl) ?_; apply Exists.intro; refine ⟨fun w1 hS1 => ?_, ?_⟩
  · obtain ⟨m0, m1, m2⟩ := And.intro ((X0.out.up hS1).cell (j := 0) rfl) (And.intro ((X0.out.up hS1).cell (j := 1) rfl) ((X0.out.up hS1).cell (j := 2) rfl))
    have c0 := (X1.out.up hS1).cell (j := 0) rfl
    have h0 := (X2.out.up hS1).cell (j := 0) rfl
    have h1 := (X2.out.up hS1).cell (j := 1) rfl
    have h2 := (X2.out.up hS1).cell (j := 2) rfl
    have h3 := (X2.out.up hS1).cell (j := 3) rfl
    have h4 := (X2.out.up hS1).cell (j := 4) rfl
    have h5 := (X2.out.up hS1).cell (j := 5) rfl
    have h6 := (X2.out.up hS1).cell (j := 6) rfl
    have h7 := (X2.out.up hS1).cell (j := 7) rfl
    have l0 := (X0.out.up hS1).lt
    have l1 := (X1.out.up hS1).lt
    have l2 := (X2.out.up hS1).lt
    clear hS1; go_simp
    try rfl
  go_simp; refine mixH_go rfl (by rfl) (fun K hK => ?_); go_simp; refine (CS.out _).mono ?_; rintro x wA ⟨rfl, uA⟩; refine hK _ _ ((Up.refl _).drew.trans uA) ?_; clear hK K; go_simp; refine mixH_take rfl (by rfl) ?_; apply Exists.intro; refine ⟨fun w1 hS1 => ?_, ?_⟩
  · clear hS1
    go_simp
    try rfl
  go_simp; refine mixH_take rfl (by rfl) ?_; apply Exists.intro; refine ⟨fun w1 hS1 => ?_, ?_⟩
  · clear hS1
    go_simp
    try rfl
  go_simp; refine mixH_take rfl (by rfl) ?_; apply Exists.intro; refine ⟨fun w1 hS1 => ?_, ?_⟩
  · clear hS1
    go_simp
    try rfl
  go_simp; refine mixH_take rfl (by rfl) ?_; apply Exists.intro; refine ⟨fun w1 hS1 => ?_, ?_⟩
  · obtain ⟨m0, m1, m2⟩ := And.intro ((X0.out.up hS1).cell (j := 0) rfl) (And.intro ((X0.out.up hS1).cell (j := 1) rfl) ((X0.out.up hS1).cell (j := 2) rfl))
    have c0 := (X1.out.up hS1).cell (j := 0) rfl
    have h0 := (X2.out.up hS1).cell (j := 0) rfl
    have h1 := (X2.out.up hS1).cell (j := 1) rfl
    have h2 := (X2.out.up hS1).cell (j := 2) rfl
    have h3 := (X2.out.up hS1).cell (j := 3) rfl
    have h4 := (X2.out.up hS1).cell (j := 4) rfl
    have h5 := (X2.out.up hS1).cell (j := 5) rfl
    have h6 := (X2.out.up hS1).cell (j := 6) rfl
    have h7 := (X2.out.up hS1).cell (j := 7) rfl
    have l0 := (X0.out.up hS1).lt
    have l1 := (X1.out.up hS1).lt
    have l2 := (X2.out.up hS1).lt
    clear hS1; go_simp
    try rfl
  go_simp; refine mixH_go rfl (by rfl) (fun K hK => ?_); go_simp; refine (CV.out _).mono ?_; rintro x w2 ⟨rfl, rfl⟩; refine hK _ _ ((Up.refl _).drew.trans uA) ?_; clear hK K; go_simp; refine mixH_take rfl (by rfl) ?_; apply Exists.intro; refine ⟨fun w1 hS1 => ?_, ?_⟩
  · clear hS1
    go_simp
    try rfl
  go_simp; refine mixH_take rfl (by rfl) ?_; apply Exists.intro; refine ⟨fun w1 hS1 => ?_, ?_⟩
  · clear hS1
    go_simp
    try rfl
  go_simp; refine mixH_take rfl (by rfl) ?_; apply Exists.intro; refine ⟨fun w1 hS1 => ?_, ?_⟩
  · obtain ⟨m0, m1, m2⟩ := And.intro ((X0.out.up hS1).cell (j := 0) rfl) (And.intro ((X0.out.up hS1).cell (j := 1) rfl) ((X0.out.up hS1).cell (j := 2) rfl))
    have c0 := (X1.out.up hS1).cell (j := 0) rfl
    have h0 := (X2.out.up hS1).cell (j := 0) rfl
    have h1 := (X2.out.up hS1).cell (j := 1) rfl
    have h2 := (X2.out.up hS1).cell (j := 2) rfl
    have h3 := (X2.out.up hS1).cell (j := 3) rfl
    have h4 := (X2.out.up hS1).cell (j := 4) rfl
    have h5 := (X2.out.up hS1).cell (j := 5) rfl
    have h6 := (X2.out.up hS1).cell (j := 6) rfl
    have h7 := (X2.out.up hS1).cell (j := 7) rfl
    have l0 := (X0.out.up hS1).lt
    have l1 := (X1.out.up hS1).lt
    have l2 := (X2.out.up hS1).lt
    clear hS1; go_simp
    try rfl
  go_simp; refine mixH_take rfl (by rfl) ?_; apply Exists.intro; refine ⟨fun w1 hS1 => ?_, ?_⟩
  · obtain ⟨m0, m1, m2⟩ := And.intro ((X0.out.up hS1).cell (j := 0) rfl) (And.intro ((X0.out.up hS1).cell (j := 1) rfl) ((X0.out.up hS1).cell (j := 2) rfl))
    have c0 := (X1.out.up hS1).cell (j := 0) rfl
    have h0 := (X2.out.up hS1).cell (j := 0) rfl
    have h1 := (X2.out.up hS1).cell (j := 1) rfl
    have h2 := (X2.out.up hS1).cell (j := 2) rfl
    have h3 := (X2.out.up hS1).cell (j := 3) rfl
    have h4 := (X2.out.up hS1).cell (j := 4) rfl
    have h5 := (X2.out.up hS1).cell (j := 5) rfl
    have h6 := (X2.out.up hS1).cell (j := 6) rfl
    have h7 := (X2.out.up hS1).cell (j := 7) rfl
    have l0 := (X0.out.up hS1).lt
    have l1 := (X1.out.up hS1).lt
    have l2 := (X2.out.up hS1).lt
    clear hS1; go_simp
    try rfl
  go_simp; refine mixH_take rfl (by rfl) ?_; apply Exists.intro; refine ⟨fun w1 hS1 => ?_, ?_⟩
  · clear hS1
    go_simp
    try rfl
  go_simp; refine mixH_take rfl (by rfl) ?_; apply Exists.intro; refine ⟨fun w1 hS1 => ?_, ?_⟩
  · obtain ⟨m0, m1, m2⟩ := And.intro ((X0.out.up hS1).cell (j := 0) rfl) (And.intro ((X0.out.up hS1).cell (j := 1) rfl) ((X0.out.up hS1).cell (j := 2) rfl))
    have c0 := (X1.out.up hS1).cell (j := 0) rfl
    have h0 := (X2.out.up hS1).cell (j := 0) rfl
    have h1 := (X2.out.up hS1).cell (j := 1) rfl
    have h2 := (X2.out.up hS1).cell (j := 2) rfl
    have h3 := (X2.out.up hS1).cell (j := 3) rfl
    have h4 := (X2.out.up hS1).cell (j := 4) rfl
    have h5 := (X2.out.up hS1).cell (j := 5) rfl
    have h6 := (X2.out.up hS1).cell (j := 6) rfl
    have h7 := (X2.out.up hS1).cell (j := 7) rfl
    have l0 := (X0.out.up hS1).lt
    have l1 := (X1.out.up hS1).lt
    have l2 := (X2.out.up hS1).lt
    clear hS1; go_simp
    try rfl
  go_simp; refine mixH_take rfl (by rfl) ?_; apply Exists.intro; refine ⟨fun w1 hS1 => ?_, ?_⟩
  · clear hS1
    go_simp
    try rfl
  go_simp; refine mixH_take rfl (by rfl) ?_; apply Exists.intro; refine ⟨fun w1 hS1 => ?_, ?_⟩
  · obtain ⟨m0, m1, m2⟩ := And.intro ((X0.out.up hS1).cell (j := 0) rfl) (And.intro ((X0.out.up hS1).cell (j := 1) rfl) ((X0.out.up hS1).cell (j := 2) rfl))
    have c0 := (X1.out.up hS1).cell (j := 0) rfl
    have h0 := (X2.out.up hS1).cell (j := 0) rfl
    have h1 := (X2.out.up hS1).cell (j := 1) rfl
    have h2 := (X2.out.up hS1).cell (j := 2) rfl
    have h3 := (X2.out.up hS1).cell (j := 3) rfl
    have h4 := (X2.out.up hS1).cell (j := 4) rfl
    have h5 := (X2.out.up hS1).cell (j := 5) rfl
    have h6 := (X2.out.up hS1).cell (j := 6) rfl
    have h7 := (X2.out.up hS1).cell (j := 7) rfl
    have l0 := (X0.out.up hS1).lt
    have l1 := (X1.out.up hS1).lt
    have l2 := (X2.out.up hS1).lt
    clear hS1; go_simp
    try rfl
  go_simp; refine mixH_go rfl (by rfl) (fun K hK => ?_); go_simp; refine (CO.out _).mono ?_; rintro x wB ⟨gB, rfl, uB⟩; refine hK _ _ (((Up.refl _).drew.trans uA).trans uB) ?_; clear hK K; go_simp; refine mixH_go rfl (by rfl) (fun K hK => ?_); go_simp; refine hK _ _ ((((Up.refl _).drew.trans uA).trans uB).alloc _) ?_; clear hK K; go_simp; refine mixH_go rfl (by rfl) (fun K hK => ?_); go_simp; refine (CC.out _ gB (U.out.trans (((Up.refl _).drew.trans uA).trans uB))).mono ?_; rintro x wC ⟨AC, cC, rfl, -, -, eC, -, uC⟩; refine hK _ _ (((((Up.refl _).drew.trans uA).trans uB).alloc _).trans uC) ?_; clear hK K
  go_simp; refine mixH_go rfl (by rfl) (fun K hK => ?_); go_simp; refine (CI.out _ _ _ eC).mono ?_; rintro x wD ⟨rfl, uD⟩; refine hK _ _ ((((((Up.refl _).drew.trans uA).trans uB).alloc _).trans uC).trans uD) ?_; clear hK K; go_simp; refine mixH_take rfl (by rfl) ?_; apply Exists.intro; refine ⟨fun w1 hS1 => ?_, ?_⟩
  · clear hS1
    go_simp
    try rfl
  go_simp; refine mixH_take rfl (by rfl) ?_; apply Exists.intro; refine ⟨fun w1 hS1 => ?_, ?_⟩
  · clear hS1
    go_simp
    try rfl
  go_simp; refine mixH_take rfl (by rfl) ?_; apply Exists.intro; refine ⟨fun w1 hS1 => ?_, ?_⟩
  · obtain ⟨m0, m1, m2⟩ := And.intro ((X0.out.up hS1).cell (j := 0) rfl) (And.intro ((X0.out.up hS1).cell (j := 1) rfl) ((X0.out.up hS1).cell (j := 2) rfl))
    have c0 := (X1.out.up hS1).cell (j := 0) rfl
    have h0 := (X2.out.up hS1).cell (j := 0) rfl
    have h1 := (X2.out.up hS1).cell (j := 1) rfl
    have h2 := (X2.out.up hS1).cell (j := 2) rfl
    have h3 := (X2.out.up hS1).cell (j := 3) rfl
    have h4 := (X2.out.up hS1).cell (j := 4) rfl
    have h5 := (X2.out.up hS1).cell (j := 5) rfl
    have h6 := (X2.out.up hS1).cell (j := 6) rfl
    have h7 := (X2.out.up hS1).cell (j := 7) rfl
    have l0 := (X0.out.up hS1).lt
    have l1 := (X1.out.up hS1).lt
    have l2 := (X2.out.up hS1).lt
    clear hS1; go_simp
    try rfl
  go_simp; refine mixH_take rfl (by rfl) ?_; apply Exists.intro; refine ⟨fun w1 hS1 => ?_, ?_⟩
  · obtain ⟨m0, m1, m2⟩ := And.intro ((X0.out.up hS1).cell (j := 0) rfl) (And.intro ((X0.out.up hS1).cell (j := 1) rfl) ((X0.out.up hS1).cell (j := 2) rfl))
    have c0 := (X1.out.up hS1).cell (j := 0) rfl
    have h0 := (X2.out.up hS1).cell (j := 0) rfl
    have h1 := (X2.out.up hS1).cell (j := 1) rfl
    have h2 := (X2.out.up hS1).cell (j := 2) rfl
    have h3 := (X2.out.up hS1).cell (j := 3) rfl
    have h4 := (X2.out.up hS1).cell (j := 4) rfl
    have h5 := (X2.out.up hS1).cell (j := 5) rfl
    have h6 := (X2.out.up hS1).cell (j := 6) rfl
    have h7 := (X2.out.up hS1).cell (j := 7) rfl
    have l0 := (X0.out.up hS1).lt
    have l1 := (X1.out.up hS1).lt
    have l2 := (X2.out.up hS1).lt
    clear hS1; go_simp
    try rfl
  go_simp; refine mixH_take rfl (by rfl) ?_; apply Exists.intro; refine ⟨fun w1 hS1 => ?_, ?_⟩
  · clear hS1
    go_simp
    try rfl
  go_simp; refine mixH_take rfl (by rfl) ?_; apply Exists.intro; refine ⟨fun w1 hS1 => ?_, ?_⟩
  · obtain ⟨m0, m1, m2⟩ := And.intro ((X0.out.up hS1).cell (j := 0) rfl) (And.intro ((X0.out.up hS1).cell (j := 1) rfl) ((X0.out.up hS1).cell (j := 2) rfl))
    have c0 := (X1.out.up hS1).cell (j := 0) rfl
    have h0 := (X2.out.up hS1).cell (j := 0) rfl
    have h1 := (X2.out.up hS1).cell (j := 1) rfl
    have h2 := (X2.out.up hS1).cell (j := 2) rfl
    have h3 := (X2.out.up hS1).cell (j := 3) rfl
    have h4 := (X2.out.up hS1).cell (j := 4) rfl
    have h5 := (X2.out.up hS1).cell (j := 5) rfl
    have h6 := (X2.out.up hS1).cell (j := 6) rfl
    have h7 := (X2.out.up hS1).cell (j := 7) rfl
    have l0 := (X0.out.up hS1).lt
    have l1 := (X1.out.up hS1).lt
    have l2 := (X2.out.up hS1).lt
    clear hS1; go_simp
    try rfl
  go_simp; refine mixH_go rfl (by rfl) (fun K hK => ?_); go_simp; refine (CJ.out _).mono ?_; rintro x wE ⟨rfl, uE⟩; refine hK _ _ (((((((Up.refl _).drew.trans uA).trans uB).alloc _).trans uC).trans uD).trans uE) ?_; clear hK K; go_simp; refine mixH_take rfl (by rfl) ?_; apply Exists.intro; refine ⟨fun w1 hS1 => ?_, ?_⟩
  · clear hS1
    go_simp
    try rfl
  go_simp; refine mixH_take rfl (by rfl) ?_; apply Exists.intro; refine ⟨fun w1 hS1 => ?_, ?_⟩
  · clear hS1
    go_simp
    try rfl
  go_simp; refine mixH_take rfl (by rfl) ?_; apply Exists.intro; refine ⟨fun w1 hS1 => ?_, ?_⟩
  · clear hS1
    go_simp
    try rfl
  go_simp; refine mixH_take rfl (by rfl) ?_; apply Exists.intro; refine ⟨fun w1 hS1 => ?_, ?_⟩
  · obtain ⟨m0, m1, m2⟩ := And.intro ((X0.out.up hS1).cell (j := 0) rfl) (And.intro ((X0.out.up hS1).cell (j := 1) rfl) ((X0.out.up hS1).cell (j := 2) rfl))
    have c0 := (X1.out.up hS1).cell (j := 0) rfl
    have h0 := (X2.out.up hS1).cell (j := 0) rfl
    have h1 := (X2.out.up hS1).cell (j := 1) rfl
    have h2 := (X2.out.up hS1).cell (j := 2) rfl
    have h3 := (X2.out.up hS1).cell (j := 3) rfl
    have h4 := (X2.out.up hS1).cell (j := 4) rfl
    have h5 := (X2.out.up hS1).cell (j := 5) rfl
    have h6 := (X2.out.up hS1).cell (j := 6) rfl
    have h7 := (X2.out.up hS1).cell (j := 7) rfl
    have l0 := (X0.out.up hS1).lt
    have l1 := (X1.out.up hS1).lt
    have l2 := (X2.out.up hS1).lt
    clear hS1; go_simp
    try rfl
  go_simp; refine mixH_take rfl (by rfl) ?_; apply Exists.intro; refine ⟨fun w1 hS1 => ?_, ?_⟩
  · clear hS1
    go_simp
    try rfl
  go_simp; refine mixH_go rfl (by rfl) (fun K hK => ?_); go_simp; refine (CK.out _ _).mono ?_; rintro x wF ⟨rfl, uF⟩; refine hK _ _ ((((((((Up.refl _).drew.trans uA).trans uB).alloc _).trans uC).trans uD).trans uE).trans uF) ?_; clear hK K; go_simp; refine mixH_take rfl (by rfl) ?_; apply Exists.intro; refine ⟨fun w1 hS1 => ?_, ?_⟩
  · clear hS1
    go_simp
    try rfl
  go_simp; refine mixH_take rfl (by rfl) ?_; apply Exists.intro; refine ⟨fun w1 hS1 => ?_, ?_⟩
  · clear hS1
    go_simp
    try rfl
  go_simp; refine mixH_take rfl (by rfl) ?_; apply Exists.intro; refine ⟨fun w1 hS1 => ?_, ?_⟩
  · obtain ⟨m0, m1, m2⟩ := And.intro ((X0.out.up hS1).cell (j := 0) rfl) (And.intro ((X0.out.up hS1).cell (j := 1) rfl) ((X0.out.up hS1).cell (j := 2) rfl))
    have c0 := (X1.out.up hS1).cell (j := 0) rfl
    have h0 := (X2.out.up hS1).cell (j := 0) rfl
    have h1 := (X2.out.up hS1).cell (j := 1) rfl
    have h2 := (X2.out.up hS1).cell (j := 2) rfl
    have h3 := (X2.out.up hS1).cell (j := 3) rfl
    have h4 := (X2.out.up hS1).cell (j := 4) rfl
    have h5 := (X2.out.up hS1).cell (j := 5) rfl
    have h6 := (X2.out.up hS1).cell (j := 6) rfl
    have h7 := (X2.out.up hS1).cell (j := 7) rfl
    have l0 := (X0.out.up hS1).lt
    have l1 := (X1.out.up hS1).lt
    have l2 := (X2.out.up hS1).lt
    clear hS1; go_simp
    try rfl
  go_simp; refine mixH_take rfl (by rfl) ?_; apply Exists.intro; refine ⟨fun w1 hS1 => ?_, ?_⟩
  · obtain ⟨m0, m1, m2⟩ := And.intro ((X0.out.up hS1).cell (j := 0) rfl) (And.intro ((X0.out.up hS1).cell (j := 1) rfl) ((X0.out.up hS1).cell (j := 2) rfl))
    have c0 := (X1.out.up hS1).cell (j := 0) rfl
    have h0 := (X2.out.up hS1).cell (j := 0) rfl
    have h1 := (X2.out.up hS1).cell (j := 1) rfl
    have h2 := (X2.out.up hS1).cell (j := 2) rfl
    have h3 := (X2.out.up hS1).cell (j := 3) rfl
    have h4 := (X2.out.up hS1).cell (j := 4) rfl
    have h5 := (X2.out.up hS1).cell (j := 5) rfl
    have h6 := (X2.out.up hS1).cell (j := 6) rfl
    have h7 := (X2.out.up hS1).cell (j := 7) rfl
    have l0 := (X0.out.up hS1).lt
    have l1 := (X1.out.up hS1).lt
    have l2 := (X2.out.up hS1).lt
    clear hS1; go_simp
    try rfl
  go_simp; refine mixH_go rfl (by rfl) (fun K hK => ?_); go_simp; refine (CX.out _).mono ?_; rintro x wG ⟨rfl, uG⟩; refine hK _ _ (((((((((Up.refl _).drew.trans uA).trans uB).alloc _).trans uC).trans uD).trans uE).trans uF).trans uG) ?_; clear hK K; go_simp; refine mixH_take rfl (by rfl) ?_; apply Exists.intro; refine ⟨fun w1 hS1 => ?_, ?_⟩
  · clear hS1
    go_simp
    try rfl
  go_simp; refine mixH_take rfl (by rfl) ?_; apply Exists.intro; refine ⟨fun w1 hS1 => ?_, ?_⟩
  · clear hS1
    go_simp
    try rfl
  go_simp; refine mixH_nil ?_
  have UE := Lib.hid (U.out.trans (((((((((Up.refl _).drew.trans uA).trans uB).alloc _).trans uC).trans uD).trans uE).trans uF).trans uG))
  clear uA uB uC uD uE uF uG eC; go_wp2; go_ret
  exact ⟨rfl, UE.out⟩
end Go.Proofs.Ytipjcjjjkkaigaa

namespace Go.Proofs.Ytipjcjjjkkaigaa
set_option maxRecDepth 100000
open Go.RowKit
theorem rise_pw : ∀ l : List Evt, riseB l = true → l.Pairwise (fun a b => ltE a b = true)
  | [], _ => List.Pairwise.nil
  | [a], _ => List.Pairwise.cons (fun _ h => absurd h (by simp)) List.Pairwise.nil
  | a :: b :: r, h => by
    rw [riseB, Bool.and_eq_true] at h
    have ih := rise_pw (b :: r) h.2
    refine List.Pairwise.cons (fun x hx => ?_) ih
    rcases List.mem_cons.1 hx with rfl | hx
    · exact h.1
    · exact ltE_trans _ _ _ h.1 ((List.pairwise_cons.1 ih).1 x hx)
theorem riseT_pw : ∀ l : List Rec, l.Pairwise (fun a b => ltR a b = true) → riseT l = true
  | [], _ => rfl
  | [_], _ => rfl
  | a :: b :: r, h => by
    have h2 := List.pairwise_cons.1 h
    rw [riseT, Bool.and_eq_true]
    exact ⟨h2.1 b (by simp), riseT_pw (b :: r) h2.2⟩
theorem ltR_ev {a b : Evt} (h : ltE a b = true) : ltR ⟨a, 0⟩ ⟨b, 0⟩ = true := by
  unfold ltR Rec.itm; rw [ltT_eq, h]
  rfl
theorem hs0_rise {m : Mdl} {comp : Int} (hm : mdlB m = true) : riseT (hs0 m comp) = true := by
  rw [hs0_in hm]
  have hm' := hm
  simp only [mdlB, startsB, Bool.and_eq_true] at hm'; obtain ⟨⟨⟨_, _⟩, ⟨⟨_, hr⟩, _⟩⟩, _⟩ := hm'; apply riseT_pw; unfold wtk; rw [List.pairwise_map]; rw [List.take_of_length_le (Nat.le_refl _)]
  exact ((rise_pw _ hr).filter _).imp (fun h => ltR_ev h)
theorem hs0_all {m : Mdl} {comp : Int} (hm : mdlB m = true) : (hs0 m comp).all (itemForB m.rules.length m.til comp) = true := by
  rw [hs0_in hm]
  have hm' := hm
  simp only [mdlB, startsB, Bool.and_eq_true] at hm'; obtain ⟨⟨⟨_, _⟩, ⟨⟨_, _⟩, hs⟩⟩, _⟩ := hm'
  refine List.all_eq_true.2 fun x hx => ?_
  unfold wtk at hx; rw [List.take_of_length_le (Nat.le_refl _)] at hx; obtain ⟨e, he, rfl⟩ := List.mem_map.1 hx; obtain ⟨he, hc⟩ := List.mem_filter.1 he
  have := List.all_eq_true.1 hs e he
  unfold startB at this; simp only [Bool.and_eq_true] at this; unfold itemForB itemB takB; dsimp only; rw [this.2, this.1.2, hc]; simp [inB]
set_option maxHeartbeats 4000000 in
theorem implHsOk_no (A : Option Addr) (n c : Nat) (B : Option Addr) (k d : Nat) (m : Mdl) (comp : Int) (Aw : Option Addr) (nw cw : Nat) (w : World) (hM : MdlV w A n B k m) (hm : mdlB m = true) (hc : inB comp 0 ((n : Int) - 1) = true) (hn : nw ≤ 1048576) (hE : Recs w Aw nw (hs0 m comp)) :
    Calls Try.prog 23 #[.agg #[.slice A n c, .slice B k d, .int .i64 m.til], .int .i64 comp, .agg #[.int .i64 0, .int .i64 0, .int .i64 0, .int .i64 0, .slice none 0 0, .slice Aw nw cw, .slice none 0 0, .slice none 0 0]] w fun x w' => x = .returned (.bool true) ∧ Up w w' := by
  have few := mdlB_few hm
  rw [← hM.rules.1] at hc
  have CH := Lib.hid (fun bm W (u : Up w W) => hosts_no (some bm) m.rules.length m.til comp Aw nw cw (hs0 m comp) W hn (hE.up u) hc ⟨by omega, by omega⟩ (hs0_rise hm) (hs0_all hm))
  have CN := Lib.hid (fun W (u : Up w W) => newMachine_any A n c B k d m W (hM.up u))
  have HM := Lib.hid hm
  have X2 := Lib.hid (Blk.new (w.alloc (.cells #[.slice A n c, .slice B k d, .int .i64 m.til] 38)) #[.int .i64 0, .int .i64 0, .int .i64 0, .int .i64 0, .slice none 0 0, .slice Aw nw cw, .slice none 0 0, .slice none 0 0] 33)
  simp only [World.size_alloc] at X2
  have U := Lib.hid (((Up.refl w).alloc (.cells #[.slice A n c, .slice B k d, .int .i64 m.til] 38)).alloc (.cells #[.int .i64 0, .int .i64 0, .int .i64 0, .int .i64 0, .slice none 0 0, .slice Aw nw cw, .slice none 0 0, .slice none 0 0] 33))
  clear hm hc hE few
  go_enter Try.func23, Try.ntmps23
  go_wp2_with fail
  refine (CN.out _ U.out).mono ?_; rintro x w1 ⟨u1, h | ⟨_, bm, rfl, hb, _⟩⟩
  · have := h.1
    rw [HM.out] at this
    cases this
  · generalize (m.rules.length : Int) = many at *
    have U1 := Lib.hid ((U.out.trans u1).alloc (.cells #[.map (some bm), .int .i64 many, .int .i64 m.til] 118))
    have X2 := Lib.hid ((X2.out.up u1).alloc (.cells #[.map (some bm), .int .i64 many, .int .i64 m.til] 118))
    have z0 := X2.out.cell (j := 0) rfl
    have z1 := X2.out.cell (j := 1) rfl
    have z2 := X2.out.cell (j := 2) rfl
    have z3 := X2.out.cell (j := 3) rfl
    have z4 := X2.out.cell (j := 4) rfl
    have z5 := X2.out.cell (j := 5) rfl
    have z6 := X2.out.cell (j := 6) rfl
    have z7 := X2.out.cell (j := 7) rfl
    have lz := X2.out.lt
    clear u1
    go_wp2_with fail
    refine (CH.out bm _ U1.out).mono ?_; rintro x w2 ⟨rfl, u2⟩
    have U2 := Lib.hid (U1.out.trans u2)
    clear u2; go_wp2; go_ret
    exact ⟨rfl, U2.out⟩
end Go.Proofs.Ytipjcjjjkkaigaa

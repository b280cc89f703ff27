/-
  What fits returns, in one sentence: whether the records' and the pending events are in order, there are as many component states as components, and all are as they ought to be; for every simulator of short lists that lies in memory.
-/
import Derived.Test.YtklldniapombiaaDLWev14
import Derived.Test.YtklldniapombiaaDLWev17
import Derived.Test.YtklldniapombiaaDLWev26
namespace Go.Proofs.Ytklldniapombiaa
set_option maxRecDepth 100000
open Go.RowKit
def fitB (many til : Int) (nc : Nat) (s : Sq) : Bool :=
  riseB (s.log.map (·.ev) ++ s.wait) && (decide ((nc : Int) = many) && (s.comps.all cstB && (s.wait.all (takB many til) && s.log.all (recB many))))
set_option maxHeartbeats 8000000 in
theorem fits_any (mp : Option Nat) (many til : Int) (Ac : Option Addr) (nc cc : Nat) (Aw : Option Addr) (nw cw : Nat) (Al : Option Addr) (nl cl : Nat) (s : Sq) (w : World) (hS : ShortSq nc nw nl) (hV : SqV w Ac nc Aw nw Al nl s) :
    Calls Try.prog 80 #[.agg #[.map mp, .int .i64 many, .int .i64 til], .agg #[.slice Ac nc cc, .slice Aw nw cw, .slice Al nl cl]] w fun x w' => x = .returned (.bool (fitB many til nc s)) ∧ Up w w' := by
  obtain ⟨h1, h2, h3⟩ := hS
  have HV := Lib.hid hV
  have CE := Lib.hid (fun W (u : Up w W) => eventsOf_any Al nl cl s.log W h3 (hV.log.up u))
  have CC := Lib.hid (fun W gA (u : Up w W) (h : Evs W (some ⟨gA, 0, none⟩) nl (s.log.map (·.ev))) => concat2 (some ⟨gA, 0, none⟩) nl nl (s.log.map (·.ev)) Aw nw cw s.wait W h (hV.wait.up u) (by omega))
  have LN : (s.log.map (·.ev) ++ s.wait).length = nl + nw := by rw [List.length_append, List.length_map, hV.log.1, hV.wait.1]
  unfold NewSl at CC; rw [LN] at CC
  have CR := Lib.hid (fun W A c (h : Evs W A (nl + nw) (s.log.map (·.ev) ++ s.wait)) => implRise_any A (nl + nw) c (s.log.map (·.ev) ++ s.wait) W (by omega) h)
  have C1 := Lib.hid (fun W (u : Up w W) => everyC_any Ac nc cc s.comps W h1 (hV.comps.up u))
  have C2 := Lib.hid (fun W (u : Up w W) => everyE_any Aw nw cw s.wait mp many til W h2 (hV.wait.up u))
  have C3 := Lib.hid (fun W (u : Up w W) => everyR_any Al nl cl s.log mp many til W h3 (hV.log.up u))
  unfold fitB
  generalize riseB (s.log.map (·.ev) ++ s.wait) = r1 at CR ⊢
  generalize s.comps.all cstB = r3 at C1 ⊢
  generalize s.wait.all (takB many til) = r4 at C2 ⊢
  generalize s.log.all (recB many) = r5 at C3 ⊢
  have B0 := (Box3.new w (.map mp) (.int .i64 many) (.int .i64 til) 109).up ((Up.refl _).alloc (.cells #[.slice Ac nc cc, .slice Aw nw cw, .slice Al nl cl] 62))
  have B1 := Box3.new (w.alloc (.cells #[.map mp, .int .i64 many, .int .i64 til] 109)) (.slice Ac nc cc) (.slice Aw nw cw) (.slice Al nl cl) 62
  simp only [World.size_alloc] at B1
  have uD0 := ((Up.refl w).alloc (.cells #[.map mp, .int .i64 many, .int .i64 til] 109)).alloc (.cells #[.slice Ac nc cc, .slice Aw nw cw, .slice Al nl cl] 62)
  have HB := And.intro B0.lt (And.intro B1.lt (And.intro B0.c0 (And.intro B0.c1 (And.intro B0.c2 (And.intro B1.c0 (And.intro B1.c1 B1.c2))))))
  clear B0 B1 hV
  go_enter Try.func80, Try.ntmps80
  go_wp2_with fail
  generalize (w.alloc (.cells #[.map mp, .int .i64 many, .int .i64 til] 109)).alloc (.cells #[.slice Ac nc cc, .slice Aw nw cw, .slice Al nl cl] 62) = W at *
  generalize hb1 : w.heap.size + 1 = b1 at *
  generalize hb0 : w.heap.size = b0 at *
  have HB := (show (fun w' => b0 < w'.heap.size ∧ b1 < w'.heap.size ∧ w'.cell? ⟨b0, 0, none⟩ = some (.map mp) ∧ w'.cell? ⟨b0, 1, none⟩ = some (.int .i64 many) ∧ w'.cell? ⟨b0, 2, none⟩ = some (.int .i64 til) ∧ w'.cell? ⟨b1, 0, none⟩ = some (.slice Ac nc cc) ∧ w'.cell? ⟨b1, 1, none⟩ = some (.slice Aw nw cw) ∧ w'.cell? ⟨b1, 2, none⟩ = some (.slice Al nl cl)) W.drew from HB)
  have HH := Lib.hid HB
  have u0 := uD0
  have uD := uD0.drew
  clear uD0
  cases r1
  · refine region_mixH (fun w' => b0 < w'.heap.size ∧ b1 < w'.heap.size ∧ w'.cell? ⟨b0, 0, none⟩ = some (.map mp) ∧ w'.cell? ⟨b0, 1, none⟩ = some (.int .i64 many) ∧ w'.cell? ⟨b0, 2, none⟩ = some (.int .i64 til) ∧ w'.cell? ⟨b1, 0, none⟩ = some (.slice Ac nc cc) ∧ w'.cell? ⟨b1, 1, none⟩ = some (.slice Aw nw cw) ∧ w'.cell? ⟨b1, 2, none⟩ = some (.slice Al nl cl)) [(0, true), (1, true), (3, true), (4, true), (2, false), (5, false), (6, false), (7, false), (8, true), (9, true), (10, true), (11, true), (12, true), (13, true), (14, true), (15, true), (16, true), (17, true), (18, true), (19, true), (20, true), (21, true), (22, true), (23, true), (24, true), (25, true), (26, true), (27, true), (28, true), (29, true), (30, true), (31, true), (32, true), (33, true), (34, true), (35, true)] (by kernel_rfl) (by kernel_rfl) HH.out ?_
    refine mixH_take rfl (by rfl) ?_; apply Exists.intro; refine ⟨fun w1 hS1 => ?_, ?_⟩
    · clear hS1
      go_simp
      try rfl
    go_simp; refine mixH_take rfl (by rfl) ?_; apply Exists.intro; refine ⟨fun w1 hS1 => ?_, ?_⟩
    · obtain ⟨l0, l1, q0, q1, q2, p0, p1, p2⟩ := hS1
      go_simp
      try rfl
    go_simp; refine mixH_take rfl (by rfl) ?_; apply Exists.intro; refine ⟨fun w1 hS1 => ?_, ?_⟩
    · clear hS1
      go_simp
      try rfl
    go_simp; refine mixH_take rfl (by rfl) ?_; apply Exists.intro; refine ⟨fun w1 hS1 => ?_, ?_⟩
    · obtain ⟨l0, l1, q0, q1, q2, p0, p1, p2⟩ := hS1
      go_simp
      try rfl
    go_simp; refine mixH_go rfl (by rfl) (fun K hK => ?_); go_simp; refine (CE.out _ uD).mono ?_; rintro x wA ⟨gA, rfl, hgA, evA, uA⟩; refine hK _ _ (two_up uA HB) ?_; clear hK K; go_simp; refine mixH_go rfl (by rfl) (fun K hK => ?_); go_simp; refine hK _ _ (two_up ((Up.refl _).alloc _) (two_up uA HB)) ?_; clear hK K; go_simp; refine mixH_go rfl (by rfl) (fun K hK => ?_); go_simp; refine (CC.out _ gA (uD.trans uA) evA).mono ?_; rintro x wB ⟨AB, cB, rfl, -, -, evB, -, uB⟩; refine hK _ _ (two_up uB (two_up ((Up.refl _).alloc _) (two_up uA HB))) ?_; clear hK K; go_simp; refine mixH_go rfl (by rfl) (fun K hK => ?_)
    go_simp; refine (CR.out _ _ cB evB).mono ?_; rintro x wC ⟨rfl, uC⟩; refine hK _ _ (two_up uC (two_up uB (two_up ((Up.refl _).alloc _) (two_up uA HB)))) ?_; clear hK K; go_simp; refine mixH_take rfl (by rfl) ?_; apply Exists.intro; refine ⟨fun w1 hS1 => ?_, ?_⟩
    · clear hS1
      go_simp
      try rfl
    iterate 3
      go_simp; refine mixH_skip rfl (by rfl) ?_; go_simp; refine mixH_skip rfl (by rfl) ?_
    go_simp
    iterate 2
      refine mixH_take rfl (by rfl) ?_; apply Exists.intro; refine ⟨fun w1 hS1 => ?_, ?_⟩
      · clear hS1
        go_simp
        try rfl
      go_simp
    refine mixH_skip rfl (by rfl) ?_; go_simp; refine mixH_skip rfl (by rfl) ?_; go_simp; refine mixH_skip rfl (by rfl) ?_; go_simp
    iterate 2
      refine mixH_take rfl (by rfl) ?_; apply Exists.intro; refine ⟨fun w1 hS1 => ?_, ?_⟩
      · clear hS1
        go_simp
        try rfl
      go_simp
    iterate 2
      refine mixH_skip rfl (by rfl) ?_; go_simp; refine mixH_skip rfl (by rfl) ?_; go_simp
    refine mixH_skip rfl (by rfl) ?_; go_simp
    iterate 2
      refine mixH_take rfl (by rfl) ?_; apply Exists.intro; refine ⟨fun w1 hS1 => ?_, ?_⟩
      · clear hS1
        go_simp
        try rfl
      go_simp
    iterate 2
      refine mixH_skip rfl (by rfl) ?_; go_simp; refine mixH_skip rfl (by rfl) ?_; go_simp
    refine mixH_skip rfl (by rfl) ?_; go_simp
    iterate 2
      refine mixH_take rfl (by rfl) ?_; apply Exists.intro; refine ⟨fun w1 hS1 => ?_, ?_⟩
      · clear hS1
        go_simp
        try rfl
      go_simp
    refine mixH_nil ?_
    have UE := Lib.hid (u0.trans ((Up.refl _).drew.trans (uA.trans (((Up.refl _).alloc _).trans (uB.trans uC)))))
    clear uA uB uC evA evB; go_wp2; go_ret
    exact ⟨by first | rfl | simp [*], UE.out⟩

  by_cases hm : (nc : Int) = many
  case neg =>
    have hm2 : ((nc : Int) == many) = false := by simp [hm]
    refine region_mixH (fun w' => b0 < w'.heap.size ∧ b1 < w'.heap.size ∧ w'.cell? ⟨b0, 0, none⟩ = some (.map mp) ∧ w'.cell? ⟨b0, 1, none⟩ = some (.int .i64 many) ∧ w'.cell? ⟨b0, 2, none⟩ = some (.int .i64 til) ∧ w'.cell? ⟨b1, 0, none⟩ = some (.slice Ac nc cc) ∧ w'.cell? ⟨b1, 1, none⟩ = some (.slice Aw nw cw) ∧ w'.cell? ⟨b1, 2, none⟩ = some (.slice Al nl cl)) [(0, true), (1, true), (3, true), (4, true), (2, false), (5, false), (6, false), (7, false), (8, true), (9, true), (10, true), (11, true), (12, true), (13, true), (14, true), (15, true), (16, true), (17, true), (18, true), (19, true), (20, true), (21, true), (22, true), (23, true), (24, true), (25, true), (26, true), (27, true), (28, true), (29, true), (30, true), (31, true), (32, true), (33, true), (34, true), (35, true)] (by kernel_rfl) (by kernel_rfl) HH.out ?_
    refine mixH_take rfl (by rfl) ?_; apply Exists.intro; refine ⟨fun w1 hS1 => ?_, ?_⟩
    · clear hS1
      go_simp
      try rfl
    go_simp; refine mixH_take rfl (by rfl) ?_; apply Exists.intro; refine ⟨fun w1 hS1 => ?_, ?_⟩
    · obtain ⟨l0, l1, q0, q1, q2, p0, p1, p2⟩ := hS1
      go_simp
      try rfl
    go_simp; refine mixH_take rfl (by rfl) ?_; apply Exists.intro; refine ⟨fun w1 hS1 => ?_, ?_⟩
    · clear hS1
      go_simp
      try rfl
    go_simp; refine mixH_take rfl (by rfl) ?_; apply Exists.intro; refine ⟨fun w1 hS1 => ?_, ?_⟩
    · obtain ⟨l0, l1, q0, q1, q2, p0, p1, p2⟩ := hS1
      go_simp
      try rfl
    go_simp; refine mixH_go rfl (by rfl) (fun K hK => ?_); go_simp; refine (CE.out _ uD).mono ?_; rintro x wA ⟨gA, rfl, hgA, evA, uA⟩; refine hK _ _ (two_up uA HB) ?_; clear hK K; go_simp; refine mixH_go rfl (by rfl) (fun K hK => ?_); go_simp; refine hK _ _ (two_up ((Up.refl _).alloc _) (two_up uA HB)) ?_; clear hK K; go_simp; refine mixH_go rfl (by rfl) (fun K hK => ?_); go_simp; refine (CC.out _ gA (uD.trans uA) evA).mono ?_; rintro x wB ⟨AB, cB, rfl, -, -, evB, -, uB⟩; refine hK _ _ (two_up uB (two_up ((Up.refl _).alloc _) (two_up uA HB))) ?_; clear hK K; go_simp; refine mixH_go rfl (by rfl) (fun K hK => ?_)
    go_simp; refine (CR.out _ _ cB evB).mono ?_; rintro x wC ⟨rfl, uC⟩; refine hK _ _ (two_up uC (two_up uB (two_up ((Up.refl _).alloc _) (two_up uA HB)))) ?_; clear hK K; go_simp
    iterate 2
      refine mixH_take rfl (by rfl) ?_; apply Exists.intro; refine ⟨fun w1 hS1 => ?_, ?_⟩
      · clear hS1
        go_simp
        try rfl
      go_simp
    refine mixH_take rfl (by rfl) ?_; apply Exists.intro; refine ⟨fun w1 hS1 => ?_, ?_⟩
    · obtain ⟨l0, l1, q0, q1, q2, p0, p1, p2⟩ := hS1
      go_simp
      try rfl
    go_simp
    iterate 2
      refine mixH_take rfl (by rfl) ?_; apply Exists.intro; refine ⟨fun w1 hS1 => ?_, ?_⟩
      · clear hS1
        go_simp
        try rfl
      go_simp
    refine mixH_take rfl (by rfl) ?_; apply Exists.intro; refine ⟨fun w1 hS1 => ?_, ?_⟩
    · obtain ⟨l0, l1, q0, q1, q2, p0, p1, p2⟩ := hS1
      go_simp
      try rfl
    go_simp
    iterate 3
      refine mixH_take rfl (by rfl) ?_; apply Exists.intro; refine ⟨fun w1 hS1 => ?_, ?_⟩
      · clear hS1
        go_simp
        try rfl
      go_simp
    refine mixH_skip rfl (by rfl) ?_; go_simp; refine mixH_skip rfl (by rfl) ?_; go_simp; refine mixH_skip rfl (by rfl) ?_; go_simp
    iterate 2
      refine mixH_take rfl (by rfl) ?_; apply Exists.intro; refine ⟨fun w1 hS1 => ?_, ?_⟩
      · clear hS1
        go_simp
        try rfl
      go_simp
    iterate 2
      refine mixH_skip rfl (by rfl) ?_; go_simp; refine mixH_skip rfl (by rfl) ?_; go_simp
    refine mixH_skip rfl (by rfl) ?_; go_simp
    iterate 2
      refine mixH_take rfl (by rfl) ?_; apply Exists.intro; refine ⟨fun w1 hS1 => ?_, ?_⟩
      · clear hS1
        go_simp
        try rfl
      go_simp
    iterate 2
      refine mixH_skip rfl (by rfl) ?_; go_simp; refine mixH_skip rfl (by rfl) ?_; go_simp
    refine mixH_skip rfl (by rfl) ?_; go_simp
    iterate 2
      refine mixH_take rfl (by rfl) ?_; apply Exists.intro; refine ⟨fun w1 hS1 => ?_, ?_⟩
      · clear hS1
        go_simp
        try rfl
      go_simp
    refine mixH_nil ?_
    have UE := Lib.hid (u0.trans ((Up.refl _).drew.trans (uA.trans (((Up.refl _).alloc _).trans (uB.trans uC)))))
    clear uA uB uC evA evB; go_wp2; go_ret
    exact ⟨by first | rfl | simp [*], UE.out⟩

  subst hm
  cases r3
  · refine region_mixH (fun w' => b0 < w'.heap.size ∧ b1 < w'.heap.size ∧ w'.cell? ⟨b0, 0, none⟩ = some (.map mp) ∧ w'.cell? ⟨b0, 1, none⟩ = some (.int .i64 (nc : Int)) ∧ w'.cell? ⟨b0, 2, none⟩ = some (.int .i64 til) ∧ w'.cell? ⟨b1, 0, none⟩ = some (.slice Ac nc cc) ∧ w'.cell? ⟨b1, 1, none⟩ = some (.slice Aw nw cw) ∧ w'.cell? ⟨b1, 2, none⟩ = some (.slice Al nl cl)) [(0, true), (1, true), (3, true), (4, true), (2, false), (5, false), (6, false), (7, false), (8, true), (9, true), (10, true), (11, true), (12, true), (13, true), (14, true), (15, true), (16, true), (17, true), (18, true), (19, false), (20, true), (21, true), (22, true), (23, true), (24, true), (25, true), (26, true), (27, true), (28, true), (29, true), (30, true), (31, true), (32, true), (33, true), (34, true), (35, true)] (by kernel_rfl) (by kernel_rfl) HH.out ?_
    refine mixH_take rfl (by rfl) ?_; apply Exists.intro; refine ⟨fun w1 hS1 => ?_, ?_⟩
    · clear hS1
      go_simp
      try rfl
    go_simp; refine mixH_take rfl (by rfl) ?_; apply Exists.intro; refine ⟨fun w1 hS1 => ?_, ?_⟩
    · obtain ⟨l0, l1, q0, q1, q2, p0, p1, p2⟩ := hS1
      go_simp
      try rfl
    go_simp; refine mixH_take rfl (by rfl) ?_; apply Exists.intro; refine ⟨fun w1 hS1 => ?_, ?_⟩
    · clear hS1
      go_simp
      try rfl
    go_simp; refine mixH_take rfl (by rfl) ?_; apply Exists.intro; refine ⟨fun w1 hS1 => ?_, ?_⟩
    · obtain ⟨l0, l1, q0, q1, q2, p0, p1, p2⟩ := hS1
      go_simp
      try rfl
    go_simp; refine mixH_go rfl (by rfl) (fun K hK => ?_); go_simp; refine (CE.out _ uD).mono ?_; rintro x wA ⟨gA, rfl, hgA, evA, uA⟩; refine hK _ _ (two_up uA HB) ?_; clear hK K; go_simp; refine mixH_go rfl (by rfl) (fun K hK => ?_); go_simp; refine hK _ _ (two_up ((Up.refl _).alloc _) (two_up uA HB)) ?_; clear hK K; go_simp; refine mixH_go rfl (by rfl) (fun K hK => ?_); go_simp; refine (CC.out _ gA (uD.trans uA) evA).mono ?_; rintro x wB ⟨AB, cB, rfl, -, -, evB, -, uB⟩; refine hK _ _ (two_up uB (two_up ((Up.refl _).alloc _) (two_up uA HB))) ?_; clear hK K; go_simp; refine mixH_go rfl (by rfl) (fun K hK => ?_)
    go_simp; refine (CR.out _ _ cB evB).mono ?_; rintro x wC ⟨rfl, uC⟩; refine hK _ _ (two_up uC (two_up uB (two_up ((Up.refl _).alloc _) (two_up uA HB)))) ?_; clear hK K; go_simp
    iterate 2
      refine mixH_take rfl (by rfl) ?_; apply Exists.intro; refine ⟨fun w1 hS1 => ?_, ?_⟩
      · clear hS1
        go_simp
        try rfl
      go_simp
    refine mixH_take rfl (by rfl) ?_; apply Exists.intro; refine ⟨fun w1 hS1 => ?_, ?_⟩
    · obtain ⟨l0, l1, q0, q1, q2, p0, p1, p2⟩ := hS1
      go_simp
      try rfl
    go_simp
    iterate 2
      refine mixH_take rfl (by rfl) ?_; apply Exists.intro; refine ⟨fun w1 hS1 => ?_, ?_⟩
      · clear hS1
        go_simp
        try rfl
      go_simp
    refine mixH_take rfl (by rfl) ?_; apply Exists.intro; refine ⟨fun w1 hS1 => ?_, ?_⟩
    · obtain ⟨l0, l1, q0, q1, q2, p0, p1, p2⟩ := hS1
      go_simp
      try rfl
    go_simp
    iterate 4
      refine mixH_take rfl (by rfl) ?_; apply Exists.intro; refine ⟨fun w1 hS1 => ?_, ?_⟩
      · clear hS1
        go_simp
        try rfl
      go_simp
    refine mixH_take rfl (by rfl) ?_; apply Exists.intro; refine ⟨fun w1 hS1 => ?_, ?_⟩
    · obtain ⟨l0, l1, q0, q1, q2, p0, p1, p2⟩ := hS1
      go_simp
      try rfl
    go_simp; refine mixH_go rfl (by rfl) (fun K hK => ?_); go_simp; refine (C1.out _ (uD.trans (uA.trans (((Up.refl _).alloc _).trans (uB.trans uC))))).mono ?_; rintro x wD ⟨rfl, uE1⟩; refine hK _ _ (two_up uE1 (two_up uC (two_up uB (two_up ((Up.refl _).alloc _) (two_up uA HB))))) ?_; clear hK K; go_simp
    iterate 2
      refine mixH_take rfl (by rfl) ?_; apply Exists.intro; refine ⟨fun w1 hS1 => ?_, ?_⟩
      · clear hS1
        go_simp
        try rfl
      go_simp
    iterate 2
      refine mixH_skip rfl (by rfl) ?_; go_simp; refine mixH_skip rfl (by rfl) ?_; go_simp
    refine mixH_skip rfl (by rfl) ?_; go_simp
    iterate 2
      refine mixH_take rfl (by rfl) ?_; apply Exists.intro; refine ⟨fun w1 hS1 => ?_, ?_⟩
      · clear hS1
        go_simp
        try rfl
      go_simp
    iterate 2
      refine mixH_skip rfl (by rfl) ?_; go_simp; refine mixH_skip rfl (by rfl) ?_; go_simp
    refine mixH_skip rfl (by rfl) ?_; go_simp
    iterate 2
      refine mixH_take rfl (by rfl) ?_; apply Exists.intro; refine ⟨fun w1 hS1 => ?_, ?_⟩
      · clear hS1
        go_simp
        try rfl
      go_simp
    refine mixH_nil ?_
    have UE := Lib.hid (u0.trans (((Up.refl _).drew.trans (uA.trans (((Up.refl _).alloc _).trans (uB.trans uC)))).trans uE1))
    clear uA uB uC evA evB uE1; go_wp2; go_ret
    exact ⟨by first | rfl | simp [*], UE.out⟩

  cases r4
  · refine region_mixH (fun w' => b0 < w'.heap.size ∧ b1 < w'.heap.size ∧ w'.cell? ⟨b0, 0, none⟩ = some (.map mp) ∧ w'.cell? ⟨b0, 1, none⟩ = some (.int .i64 (nc : Int)) ∧ w'.cell? ⟨b0, 2, none⟩ = some (.int .i64 til) ∧ w'.cell? ⟨b1, 0, none⟩ = some (.slice Ac nc cc) ∧ w'.cell? ⟨b1, 1, none⟩ = some (.slice Aw nw cw) ∧ w'.cell? ⟨b1, 2, none⟩ = some (.slice Al nl cl)) [(0, true), (1, true), (3, true), (4, true), (2, false), (5, false), (6, false), (7, false), (8, true), (9, true), (10, true), (11, true), (12, true), (13, true), (14, true), (15, true), (16, true), (17, true), (18, true), (19, false), (20, true), (21, true), (22, true), (23, true), (24, true), (25, true), (26, false), (27, true), (28, true), (29, true), (30, true), (31, true), (32, true), (33, true), (34, true), (35, true)] (by kernel_rfl) (by kernel_rfl) HH.out ?_
    refine mixH_take rfl (by rfl) ?_; apply Exists.intro; refine ⟨fun w1 hS1 => ?_, ?_⟩
    · clear hS1
      go_simp
      try rfl
    go_simp; refine mixH_take rfl (by rfl) ?_; apply Exists.intro; refine ⟨fun w1 hS1 => ?_, ?_⟩
    · obtain ⟨l0, l1, q0, q1, q2, p0, p1, p2⟩ := hS1
      go_simp
      try rfl
    go_simp; refine mixH_take rfl (by rfl) ?_; apply Exists.intro; refine ⟨fun w1 hS1 => ?_, ?_⟩
    · clear hS1
      go_simp
      try rfl
    go_simp; refine mixH_take rfl (by rfl) ?_; apply Exists.intro; refine ⟨fun w1 hS1 => ?_, ?_⟩
    · obtain ⟨l0, l1, q0, q1, q2, p0, p1, p2⟩ := hS1
      go_simp
      try rfl
    go_simp; refine mixH_go rfl (by rfl) (fun K hK => ?_); go_simp; refine (CE.out _ uD).mono ?_; rintro x wA ⟨gA, rfl, hgA, evA, uA⟩; refine hK _ _ (two_up uA HB) ?_; clear hK K; go_simp; refine mixH_go rfl (by rfl) (fun K hK => ?_); go_simp; refine hK _ _ (two_up ((Up.refl _).alloc _) (two_up uA HB)) ?_; clear hK K; go_simp; refine mixH_go rfl (by rfl) (fun K hK => ?_); go_simp; refine (CC.out _ gA (uD.trans uA) evA).mono ?_; rintro x wB ⟨AB, cB, rfl, -, -, evB, -, uB⟩; refine hK _ _ (two_up uB (two_up ((Up.refl _).alloc _) (two_up uA HB))) ?_; clear hK K; go_simp; refine mixH_go rfl (by rfl) (fun K hK => ?_)
    go_simp; refine (CR.out _ _ cB evB).mono ?_; rintro x wC ⟨rfl, uC⟩; refine hK _ _ (two_up uC (two_up uB (two_up ((Up.refl _).alloc _) (two_up uA HB)))) ?_; clear hK K; go_simp
    iterate 2
      refine mixH_take rfl (by rfl) ?_; apply Exists.intro; refine ⟨fun w1 hS1 => ?_, ?_⟩
      · clear hS1
        go_simp
        try rfl
      go_simp
    refine mixH_take rfl (by rfl) ?_; apply Exists.intro; refine ⟨fun w1 hS1 => ?_, ?_⟩
    · obtain ⟨l0, l1, q0, q1, q2, p0, p1, p2⟩ := hS1
      go_simp
      try rfl
    go_simp
    iterate 2
      refine mixH_take rfl (by rfl) ?_; apply Exists.intro; refine ⟨fun w1 hS1 => ?_, ?_⟩
      · clear hS1
        go_simp
        try rfl
      go_simp
    refine mixH_take rfl (by rfl) ?_; apply Exists.intro; refine ⟨fun w1 hS1 => ?_, ?_⟩
    · obtain ⟨l0, l1, q0, q1, q2, p0, p1, p2⟩ := hS1
      go_simp
      try rfl
    go_simp
    iterate 4
      refine mixH_take rfl (by rfl) ?_; apply Exists.intro; refine ⟨fun w1 hS1 => ?_, ?_⟩
      · clear hS1
        go_simp
        try rfl
      go_simp
    refine mixH_take rfl (by rfl) ?_; apply Exists.intro; refine ⟨fun w1 hS1 => ?_, ?_⟩
    · obtain ⟨l0, l1, q0, q1, q2, p0, p1, p2⟩ := hS1
      go_simp
      try rfl
    go_simp; refine mixH_go rfl (by rfl) (fun K hK => ?_); go_simp; refine (C1.out _ (uD.trans (uA.trans (((Up.refl _).alloc _).trans (uB.trans uC))))).mono ?_; rintro x wD ⟨rfl, uE1⟩; refine hK _ _ (two_up uE1 (two_up uC (two_up uB (two_up ((Up.refl _).alloc _) (two_up uA HB))))) ?_; clear hK K; go_simp
    iterate 3
      refine mixH_take rfl (by rfl) ?_; apply Exists.intro; refine ⟨fun w1 hS1 => ?_, ?_⟩
      · clear hS1
        go_simp
        try rfl
      go_simp
    iterate 2
      refine mixH_take rfl (by rfl) ?_; apply Exists.intro; refine ⟨fun w1 hS1 => ?_, ?_⟩
      · obtain ⟨l0, l1, q0, q1, q2, p0, p1, p2⟩ := hS1
        go_simp
        try rfl
      go_simp
    refine mixH_take rfl (by rfl) ?_; apply Exists.intro; refine ⟨fun w1 hS1 => ?_, ?_⟩
    · clear hS1
      go_simp
      try rfl
    go_simp; refine mixH_go rfl (by rfl) (fun K hK => ?_); go_simp; refine (C2.out _ ((uD.trans (uA.trans (((Up.refl _).alloc _).trans (uB.trans uC)))).trans uE1)).mono ?_; rintro x wE ⟨rfl, uE2⟩; refine hK _ _ (two_up uE2 (two_up uE1 (two_up uC (two_up uB (two_up ((Up.refl _).alloc _) (two_up uA HB)))))) ?_; clear hK K; go_simp
    iterate 2
      refine mixH_take rfl (by rfl) ?_; apply Exists.intro; refine ⟨fun w1 hS1 => ?_, ?_⟩
      · clear hS1
        go_simp
        try rfl
      go_simp
    iterate 2
      refine mixH_skip rfl (by rfl) ?_; go_simp; refine mixH_skip rfl (by rfl) ?_; go_simp
    refine mixH_skip rfl (by rfl) ?_; go_simp
    iterate 2
      refine mixH_take rfl (by rfl) ?_; apply Exists.intro; refine ⟨fun w1 hS1 => ?_, ?_⟩
      · clear hS1
        go_simp
        try rfl
      go_simp
    refine mixH_nil ?_
    have UE := Lib.hid (u0.trans ((((Up.refl _).drew.trans (uA.trans (((Up.refl _).alloc _).trans (uB.trans uC)))).trans uE1).trans uE2))
    clear uA uB uC evA evB uE1 uE2; go_wp2; go_ret
    exact ⟨by first | rfl | simp [*], UE.out⟩

  cases r5
  · refine region_mixH (fun w' => b0 < w'.heap.size ∧ b1 < w'.heap.size ∧ w'.cell? ⟨b0, 0, none⟩ = some (.map mp) ∧ w'.cell? ⟨b0, 1, none⟩ = some (.int .i64 (nc : Int)) ∧ w'.cell? ⟨b0, 2, none⟩ = some (.int .i64 til) ∧ w'.cell? ⟨b1, 0, none⟩ = some (.slice Ac nc cc) ∧ w'.cell? ⟨b1, 1, none⟩ = some (.slice Aw nw cw) ∧ w'.cell? ⟨b1, 2, none⟩ = some (.slice Al nl cl)) [(0, true), (1, true), (3, true), (4, true), (2, false), (5, false), (6, false), (7, false), (8, true), (9, true), (10, true), (11, true), (12, true), (13, true), (14, true), (15, true), (16, true), (17, true), (18, true), (19, false), (20, true), (21, true), (22, true), (23, true), (24, true), (25, true), (26, false), (27, true), (28, true), (29, true), (30, true), (31, true), (32, true), (33, false), (34, true), (35, true)] (by kernel_rfl) (by kernel_rfl) HH.out ?_
    refine mixH_take rfl (by rfl) ?_; apply Exists.intro; refine ⟨fun w1 hS1 => ?_, ?_⟩
    · clear hS1
      go_simp
      try rfl
    go_simp; refine mixH_take rfl (by rfl) ?_; apply Exists.intro; refine ⟨fun w1 hS1 => ?_, ?_⟩
    · obtain ⟨l0, l1, q0, q1, q2, p0, p1, p2⟩ := hS1
      go_simp
      try rfl
    go_simp; refine mixH_take rfl (by rfl) ?_; apply Exists.intro; refine ⟨fun w1 hS1 => ?_, ?_⟩
    · clear hS1
      go_simp
      try rfl
    go_simp; refine mixH_take rfl (by rfl) ?_; apply Exists.intro; refine ⟨fun w1 hS1 => ?_, ?_⟩
    · obtain ⟨l0, l1, q0, q1, q2, p0, p1, p2⟩ := hS1
      go_simp
      try rfl
    go_simp; refine mixH_go rfl (by rfl) (fun K hK => ?_); go_simp; refine (CE.out _ uD).mono ?_; rintro x wA ⟨gA, rfl, hgA, evA, uA⟩; refine hK _ _ (two_up uA HB) ?_; clear hK K; go_simp; refine mixH_go rfl (by rfl) (fun K hK => ?_); go_simp; refine hK _ _ (two_up ((Up.refl _).alloc _) (two_up uA HB)) ?_; clear hK K; go_simp; refine mixH_go rfl (by rfl) (fun K hK => ?_); go_simp; refine (CC.out _ gA (uD.trans uA) evA).mono ?_; rintro x wB ⟨AB, cB, rfl, -, -, evB, -, uB⟩; refine hK _ _ (two_up uB (two_up ((Up.refl _).alloc _) (two_up uA HB))) ?_; clear hK K; go_simp; refine mixH_go rfl (by rfl) (fun K hK => ?_)
    go_simp; refine (CR.out _ _ cB evB).mono ?_; rintro x wC ⟨rfl, uC⟩; refine hK _ _ (two_up uC (two_up uB (two_up ((Up.refl _).alloc _) (two_up uA HB)))) ?_; clear hK K; go_simp
    iterate 2
      refine mixH_take rfl (by rfl) ?_; apply Exists.intro; refine ⟨fun w1 hS1 => ?_, ?_⟩
      · clear hS1
        go_simp
        try rfl
      go_simp
    refine mixH_take rfl (by rfl) ?_; apply Exists.intro; refine ⟨fun w1 hS1 => ?_, ?_⟩
    · obtain ⟨l0, l1, q0, q1, q2, p0, p1, p2⟩ := hS1
      go_simp
      try rfl
    go_simp
    iterate 2
      refine mixH_take rfl (by rfl) ?_; apply Exists.intro; refine ⟨fun w1 hS1 => ?_, ?_⟩
      · clear hS1
        go_simp
        try rfl
      go_simp
    refine mixH_take rfl (by rfl) ?_; apply Exists.intro; refine ⟨fun w1 hS1 => ?_, ?_⟩
    · obtain ⟨l0, l1, q0, q1, q2, p0, p1, p2⟩ := hS1
      go_simp
      try rfl
    go_simp
    iterate 4
      refine mixH_take rfl (by rfl) ?_; apply Exists.intro; refine ⟨fun w1 hS1 => ?_, ?_⟩
      · clear hS1
        go_simp
        try rfl
      go_simp
    refine mixH_take rfl (by rfl) ?_; apply Exists.intro; refine ⟨fun w1 hS1 => ?_, ?_⟩
    · obtain ⟨l0, l1, q0, q1, q2, p0, p1, p2⟩ := hS1
      go_simp
      try rfl
    go_simp; refine mixH_go rfl (by rfl) (fun K hK => ?_); go_simp; refine (C1.out _ (uD.trans (uA.trans (((Up.refl _).alloc _).trans (uB.trans uC))))).mono ?_; rintro x wD ⟨rfl, uE1⟩; refine hK _ _ (two_up uE1 (two_up uC (two_up uB (two_up ((Up.refl _).alloc _) (two_up uA HB))))) ?_; clear hK K; go_simp
    iterate 3
      refine mixH_take rfl (by rfl) ?_; apply Exists.intro; refine ⟨fun w1 hS1 => ?_, ?_⟩
      · clear hS1
        go_simp
        try rfl
      go_simp
    iterate 2
      refine mixH_take rfl (by rfl) ?_; apply Exists.intro; refine ⟨fun w1 hS1 => ?_, ?_⟩
      · obtain ⟨l0, l1, q0, q1, q2, p0, p1, p2⟩ := hS1
        go_simp
        try rfl
      go_simp
    refine mixH_take rfl (by rfl) ?_; apply Exists.intro; refine ⟨fun w1 hS1 => ?_, ?_⟩
    · clear hS1
      go_simp
      try rfl
    go_simp; refine mixH_go rfl (by rfl) (fun K hK => ?_); go_simp; refine (C2.out _ ((uD.trans (uA.trans (((Up.refl _).alloc _).trans (uB.trans uC)))).trans uE1)).mono ?_; rintro x wE ⟨rfl, uE2⟩; refine hK _ _ (two_up uE2 (two_up uE1 (two_up uC (two_up uB (two_up ((Up.refl _).alloc _) (two_up uA HB)))))) ?_; clear hK K; go_simp
    iterate 3
      refine mixH_take rfl (by rfl) ?_; apply Exists.intro; refine ⟨fun w1 hS1 => ?_, ?_⟩
      · clear hS1
        go_simp
        try rfl
      go_simp
    iterate 2
      refine mixH_take rfl (by rfl) ?_; apply Exists.intro; refine ⟨fun w1 hS1 => ?_, ?_⟩
      · obtain ⟨l0, l1, q0, q1, q2, p0, p1, p2⟩ := hS1
        go_simp
        try rfl
      go_simp
    refine mixH_take rfl (by rfl) ?_; apply Exists.intro; refine ⟨fun w1 hS1 => ?_, ?_⟩
    · clear hS1
      go_simp
      try rfl
    go_simp; refine mixH_go rfl (by rfl) (fun K hK => ?_); go_simp; refine (C3.out _ (((uD.trans (uA.trans (((Up.refl _).alloc _).trans (uB.trans uC)))).trans uE1).trans uE2)).mono ?_; rintro x wF ⟨rfl, uE3⟩; refine hK _ _ (two_up uE3 (two_up uE2 (two_up uE1 (two_up uC (two_up uB (two_up ((Up.refl _).alloc _) (two_up uA HB))))))) ?_; clear hK K; go_simp
    iterate 2
      refine mixH_take rfl (by rfl) ?_; apply Exists.intro; refine ⟨fun w1 hS1 => ?_, ?_⟩
      · clear hS1
        go_simp
        try rfl
      go_simp
    refine mixH_nil ?_
    have UE := Lib.hid (u0.trans (((((Up.refl _).drew.trans (uA.trans (((Up.refl _).alloc _).trans (uB.trans uC)))).trans uE1).trans uE2).trans uE3))
    clear uA uB uC evA evB uE1 uE2 uE3; go_wp2; go_ret
    exact ⟨by first | rfl | simp [*], UE.out⟩

  · refine region_mixH (fun w' => b0 < w'.heap.size ∧ b1 < w'.heap.size ∧ w'.cell? ⟨b0, 0, none⟩ = some (.map mp) ∧ w'.cell? ⟨b0, 1, none⟩ = some (.int .i64 (nc : Int)) ∧ w'.cell? ⟨b0, 2, none⟩ = some (.int .i64 til) ∧ w'.cell? ⟨b1, 0, none⟩ = some (.slice Ac nc cc) ∧ w'.cell? ⟨b1, 1, none⟩ = some (.slice Aw nw cw) ∧ w'.cell? ⟨b1, 2, none⟩ = some (.slice Al nl cl)) [(0, true), (1, true), (3, true), (4, true), (2, false), (5, false), (6, false), (7, false), (8, true), (9, true), (10, true), (11, true), (12, true), (13, true), (14, true), (15, true), (16, true), (17, true), (18, true), (19, false), (20, true), (21, true), (22, true), (23, true), (24, true), (25, true), (26, false), (27, true), (28, true), (29, true), (30, true), (31, true), (32, true), (33, false), (34, true), (35, true)] (by kernel_rfl) (by kernel_rfl) HH.out ?_
    refine mixH_take rfl (by rfl) ?_; apply Exists.intro; refine ⟨fun w1 hS1 => ?_, ?_⟩
    · clear hS1
      go_simp
      try rfl
    go_simp; refine mixH_take rfl (by rfl) ?_; apply Exists.intro; refine ⟨fun w1 hS1 => ?_, ?_⟩
    · obtain ⟨l0, l1, q0, q1, q2, p0, p1, p2⟩ := hS1
      go_simp
      try rfl
    go_simp; refine mixH_take rfl (by rfl) ?_; apply Exists.intro; refine ⟨fun w1 hS1 => ?_, ?_⟩
    · clear hS1
      go_simp
      try rfl
    go_simp; refine mixH_take rfl (by rfl) ?_; apply Exists.intro; refine ⟨fun w1 hS1 => ?_, ?_⟩
    · obtain ⟨l0, l1, q0, q1, q2, p0, p1, p2⟩ := hS1
      go_simp
      try rfl
    go_simp; refine mixH_go rfl (by rfl) (fun K hK => ?_); go_simp; refine (CE.out _ uD).mono ?_; rintro x wA ⟨gA, rfl, hgA, evA, uA⟩; refine hK _ _ (two_up uA HB) ?_; clear hK K; go_simp; refine mixH_go rfl (by rfl) (fun K hK => ?_); go_simp; refine hK _ _ (two_up ((Up.refl _).alloc _) (two_up uA HB)) ?_; clear hK K; go_simp; refine mixH_go rfl (by rfl) (fun K hK => ?_); go_simp; refine (CC.out _ gA (uD.trans uA) evA).mono ?_; rintro x wB ⟨AB, cB, rfl, -, -, evB, -, uB⟩; refine hK _ _ (two_up uB (two_up ((Up.refl _).alloc _) (two_up uA HB))) ?_; clear hK K; go_simp; refine mixH_go rfl (by rfl) (fun K hK => ?_)
    go_simp; refine (CR.out _ _ cB evB).mono ?_; rintro x wC ⟨rfl, uC⟩; refine hK _ _ (two_up uC (two_up uB (two_up ((Up.refl _).alloc _) (two_up uA HB)))) ?_; clear hK K; go_simp
    iterate 2
      refine mixH_take rfl (by rfl) ?_; apply Exists.intro; refine ⟨fun w1 hS1 => ?_, ?_⟩
      · clear hS1
        go_simp
        try rfl
      go_simp
    refine mixH_take rfl (by rfl) ?_; apply Exists.intro; refine ⟨fun w1 hS1 => ?_, ?_⟩
    · obtain ⟨l0, l1, q0, q1, q2, p0, p1, p2⟩ := hS1
      go_simp
      try rfl
    go_simp
    iterate 2
      refine mixH_take rfl (by rfl) ?_; apply Exists.intro; refine ⟨fun w1 hS1 => ?_, ?_⟩
      · clear hS1
        go_simp
        try rfl
      go_simp
    refine mixH_take rfl (by rfl) ?_; apply Exists.intro; refine ⟨fun w1 hS1 => ?_, ?_⟩
    · obtain ⟨l0, l1, q0, q1, q2, p0, p1, p2⟩ := hS1
      go_simp
      try rfl
    go_simp
    iterate 4
      refine mixH_take rfl (by rfl) ?_; apply Exists.intro; refine ⟨fun w1 hS1 => ?_, ?_⟩
      · clear hS1
        go_simp
        try rfl
      go_simp
    refine mixH_take rfl (by rfl) ?_; apply Exists.intro; refine ⟨fun w1 hS1 => ?_, ?_⟩
    · obtain ⟨l0, l1, q0, q1, q2, p0, p1, p2⟩ := hS1
      go_simp
      try rfl
    go_simp; refine mixH_go rfl (by rfl) (fun K hK => ?_); go_simp; refine (C1.out _ (uD.trans (uA.trans (((Up.refl _).alloc _).trans (uB.trans uC))))).mono ?_; rintro x wD ⟨rfl, uE1⟩; refine hK _ _ (two_up uE1 (two_up uC (two_up uB (two_up ((Up.refl _).alloc _) (two_up uA HB))))) ?_; clear hK K; go_simp
    iterate 3
      refine mixH_take rfl (by rfl) ?_; apply Exists.intro; refine ⟨fun w1 hS1 => ?_, ?_⟩
      · clear hS1
        go_simp
        try rfl
      go_simp
    iterate 2
      refine mixH_take rfl (by rfl) ?_; apply Exists.intro; refine ⟨fun w1 hS1 => ?_, ?_⟩
      · obtain ⟨l0, l1, q0, q1, q2, p0, p1, p2⟩ := hS1
        go_simp
        try rfl
      go_simp
    refine mixH_take rfl (by rfl) ?_; apply Exists.intro; refine ⟨fun w1 hS1 => ?_, ?_⟩
    · clear hS1
      go_simp
      try rfl
    go_simp; refine mixH_go rfl (by rfl) (fun K hK => ?_); go_simp; refine (C2.out _ ((uD.trans (uA.trans (((Up.refl _).alloc _).trans (uB.trans uC)))).trans uE1)).mono ?_; rintro x wE ⟨rfl, uE2⟩; refine hK _ _ (two_up uE2 (two_up uE1 (two_up uC (two_up uB (two_up ((Up.refl _).alloc _) (two_up uA HB)))))) ?_; clear hK K; go_simp
    iterate 3
      refine mixH_take rfl (by rfl) ?_; apply Exists.intro; refine ⟨fun w1 hS1 => ?_, ?_⟩
      · clear hS1
        go_simp
        try rfl
      go_simp
    iterate 2
      refine mixH_take rfl (by rfl) ?_; apply Exists.intro; refine ⟨fun w1 hS1 => ?_, ?_⟩
      · obtain ⟨l0, l1, q0, q1, q2, p0, p1, p2⟩ := hS1
        go_simp
        try rfl
      go_simp
    refine mixH_take rfl (by rfl) ?_; apply Exists.intro; refine ⟨fun w1 hS1 => ?_, ?_⟩
    · clear hS1
      go_simp
      try rfl
    go_simp; refine mixH_go rfl (by rfl) (fun K hK => ?_); go_simp; refine (C3.out _ (((uD.trans (uA.trans (((Up.refl _).alloc _).trans (uB.trans uC)))).trans uE1).trans uE2)).mono ?_; rintro x wF ⟨rfl, uE3⟩; refine hK _ _ (two_up uE3 (two_up uE2 (two_up uE1 (two_up uC (two_up uB (two_up ((Up.refl _).alloc _) (two_up uA HB))))))) ?_; clear hK K; go_simp
    iterate 2
      refine mixH_take rfl (by rfl) ?_; apply Exists.intro; refine ⟨fun w1 hS1 => ?_, ?_⟩
      · clear hS1
        go_simp
        try rfl
      go_simp
    refine mixH_nil ?_
    have UE := Lib.hid (u0.trans (((((Up.refl _).drew.trans (uA.trans (((Up.refl _).alloc _).trans (uB.trans uC)))).trans uE1).trans uE2).trans uE3))
    clear uA uB uC evA evB uE1 uE2 uE3; go_wp2; go_ret
    exact ⟨by first | rfl | simp [*], UE.out⟩
end Go.Proofs.Ytklldniapombiaa

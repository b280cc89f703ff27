/-
  What szIntS, szCmbHost, szCmbHostS, szSeqRecSS and szCmbState return, in one sentence: -1 or what is left, and then each list is short; for all that lie in memory.
  How a conservative simulation that came in is opened, in one sentence: by value it gives its hosts and its rows of records; no condition is made.
  What times, plus and next return, in one sentence: the product, the sum and the next state modulo 97; for numbers in bounds.
  Which records and which pending events are valid, in one sentence: two functions on numbers; no condition is made.
-/
import Derived.Test.YtklldniapombiaaDLEcbsf01
import Derived.Test.YtklldniapombiaaDLEcbsf02
import Derived.Test.YtklldniapombiaaDLEcbsf04
import Derived.Test.YtklldniapombiaaDLEcbsf07
import Derived.Test.YtklldniapombiaaDLEcbsf09
import Derived.Test.YtklldniapombiaaDLEcbsf10
import Derived.Test.YtklldniapombiaaDLEcbsf12
namespace Go.Proofs.Ytklldniapombiaa
set_option maxRecDepth 100000
open Go.RowKit
/-- A host in memory, however long its lists. -/
def ChAtW (w : World) (b o : Nat) (h : Ch) : Prop :=
  ∃ A n c B k d, (w.cell? ⟨b, o, none⟩ = some (.int .i64 h.now.s) ∧ w.cell? ⟨b, o + 1, none⟩ = some (.int .i64 h.now.sq) ∧ w.cell? ⟨b, o + 2, none⟩ = some (.int .i64 h.now.ct) ∧ w.cell? ⟨b, o + 3, none⟩ = some (.slice A n c) ∧ w.cell? ⟨b, o + 4, none⟩ = some (.slice B k d)) ∧
    (Evs w A n h.wait ∧ n ≤ 9223372036854775807) ∧ Nms w B k h.ins ∧ k ≤ 9223372036854775807
theorem ChAtW.up {w w' : World} {b o : Nat} {h : Ch} (k : ChAtW w b o h) (u : Up w w') (hb : b < w.heap.size) : ChAtW w' b o h := by
  obtain ⟨A, n, c, B, k, d, ⟨h0, h1, h2, h3, h4⟩, ⟨h5, h6⟩, h7, h8⟩ := k
  exact ⟨A, n, c, B, k, d, ⟨(u.cells _ _ hb).trans h0, (u.cells _ _ hb).trans h1, (u.cells _ _ hb).trans h2, (u.cells _ _ hb).trans h3, (u.cells _ _ hb).trans h4⟩, ⟨h5.up u, h6⟩, h7.up u, h8⟩
def ChsW (w : World) (A : Option Addr) (n : Nat) (hs : List Ch) : Prop :=
  hs.length = n ∧ n ≤ 9223372036854775807 ∧ (0 < n → ∃ b off, A = some ⟨b, off, none⟩ ∧ b < w.heap.size ∧ ∀ i, i < n → ChAtW w b (off + i * 5) (hs.getD i default))
theorem ChsW.up {w w' : World} {A : Option Addr} {n : Nat} {hs : List Ch} (h : ChsW w A n hs) (u : Up w w') : ChsW w' A n hs :=
  ⟨h.1, h.2.1, fun hn => by
    obtain ⟨b, off, hA, hb, hc⟩ := h.2.2 hn
    exact ⟨b, off, hA, Nat.lt_of_lt_of_le hb u.size, fun i hi => (hc i hi).up u hb⟩⟩
def LgsW (w : World) (A : Option Addr) (n : Nat) (ls : List (List Rec)) : Prop :=
  ls.length = n ∧ n ≤ 9223372036854775807 ∧ (0 < n → ∃ b off, A = some ⟨b, off, none⟩ ∧ b < w.heap.size ∧ ∀ i, i < n → ∃ A' n' c', w.cell? ⟨b, off + i, none⟩ = some (.slice A' n' c') ∧ Recs w A' n' (ls.getD i []) ∧ n' ≤ 9223372036854775807)
theorem LgsW.up {w w' : World} {A : Option Addr} {n : Nat} {ls : List (List Rec)} (h : LgsW w A n ls) (u : Up w w') : LgsW w' A n ls :=
  ⟨h.1, h.2.1, fun hn => by
    obtain ⟨b, off, hA, hb, hc⟩ := h.2.2 hn; refine ⟨b, off, hA, Nat.lt_of_lt_of_le hb u.size, fun i hi => ?_⟩; obtain ⟨A', n', c', h1, h2, h3⟩ := hc i hi
    exact ⟨A', n', c', (u.cells _ _ hb).trans h1, h2.up u, h3⟩⟩
/-- Its lists are short. -/
structure ShortCs (hs : List Ch) : Prop where
  few : hs.length ≤ 1048576
  each : ∀ i, i < hs.length → (hs.getD i default).wait.length ≤ 1048576 ∧ (hs.getD i default).ins.length ≤ 1048576
structure ShortLs (ls : List (List Rec)) : Prop where
  few : ls.length ≤ 1048576
  each : ∀ i, i < ls.length → (ls.getD i []).length ≤ 1048576
theorem ChsW.chs {w : World} {A : Option Addr} {n : Nat} {hs : List Ch} (h : ChsW w A n hs) (s : ShortCs hs) : Chs w A n hs :=
  ⟨h.1, fun hn => by
    obtain ⟨b, off, hA, hb, hc⟩ := h.2.2 hn; refine ⟨b, off, hA, hb, fun i hi => ?_⟩; obtain ⟨A, n, c, B, k, d, h0, ⟨h5, h6⟩, h7, h8⟩ := hc i hi; obtain ⟨s1, s2⟩ := s.each i (by rw [h.1]; exact hi)
    exact ⟨A, n, c, B, k, d, h0, ⟨h5, by rw [← h5.1]; exact s1⟩, h7, by rw [← h7.1]; exact s2⟩⟩
theorem LgsW.lgs {w : World} {A : Option Addr} {n : Nat} {ls : List (List Rec)} (h : LgsW w A n ls) (s : ShortLs ls) : Lgs w A n ls :=
  ⟨h.1, fun hn => by
    obtain ⟨b, off, hA, hb, hc⟩ := h.2.2 hn; refine ⟨b, off, hA, hb, fun i hi => ?_⟩; obtain ⟨A', n', c', h1, h2, h3⟩ := hc i hi
    exact ⟨A', n', c', h1, h2, by rw [← h2.1]; exact s.each i (by rw [h.1]; exact hi)⟩⟩
theorem sized_if {n : Nat} {left : Int} {w w' : World} {x : Ending} (h0 : 0 ≤ left) (h1 : left ≤ 1048576) (h : x = .returned (.int .i64 (if left < n then -1 else left - n)) ∧ w = w') : Sized (n ≤ 1048576) left w x w' := by
  obtain ⟨rfl, rfl⟩ := h
  by_cases e : left < n
  · exact ⟨-1, by rw [if_pos e], .inl rfl, Up.refl _⟩
  · exact ⟨left - n, by rw [if_neg e], .inr ⟨by omega, by omega, by omega⟩, Up.refl _⟩
theorem szN_any (A : Option Addr) (n cap : Nat) (left : Int) (w : World) (h0 : 0 ≤ left) (h1 : left ≤ 1048576) (hn : n ≤ 9223372036854775807) :
    Calls Try.prog 160 #[.slice A n cap, .int .i64 left] w fun x w' => x = .returned (.int .i64 (if left < n then -1 else left - n)) ∧ w = w' := by
  have hwrap := IntWalk.i64_in (left - n) (by omega)
  by_cases h : left < n
  · have j1 : left - (n : Int) < 0 := by omega
    go_enter Try.func160, Try.ntmps160
    go_wp2; go_ret
    exact ⟨by first | rfl | (rw [if_pos h]; rfl), rfl⟩
  · have j1 : ¬ left - (n : Int) < 0 := by omega
    go_enter Try.func160, Try.ntmps160
    go_wp2; go_ret
    exact ⟨by first | rfl | (rw [if_neg h]; rfl), rfl⟩
set_option maxHeartbeats 1000000 in
theorem szCh_any (h : Ch) (A : Option Addr) (n c : Nat) (B : Option Addr) (k d : Nat) (left : Int) (w : World) (h0 : 0 ≤ left) (h1 : left ≤ 1048576) (hn : n ≤ 9223372036854775807) (hk : k ≤ 9223372036854775807) (hE : Evs w A n h.wait) (hN : Nms w B k h.ins) :
    Calls Try.prog 111 #[.agg #[.int .i64 h.now.s, .int .i64 h.now.sq, .int .i64 h.now.ct, .slice A n c, .slice B k d], .int .i64 left] w (Sized (h.wait.length ≤ 1048576 ∧ h.ins.length ≤ 1048576) left w) := by
  have C0 := Lib.hid (fun l W (a : 0 ≤ l) (b : l ≤ 1048576) => (sz_any A n c l W a (by omega) hn).mono fun x w' h => sized_if a b h)
  have C1 := Lib.hid (fun l W (a : 0 ≤ l) (b : l ≤ 1048576) => (szN_any B k d l W a b hk).mono fun x w' h => sized_if a b h)
  rw [hE.1, hN.1]; obtain ⟨⟨a0, a1, a2⟩, hw_, hi_⟩ := h; dsimp only
  have X := Lib.hid (Blk.new w #[.int .i64 a0, .int .i64 a1, .int .i64 a2, .slice A n c, .slice B k d] 154)
  have U := Lib.hid ((Up.refl w).alloc (.cells #[.int .i64 a0, .int .i64 a1, .int .i64 a2, .slice A n c, .slice B k d] 154))
  have jm : (-1 : Int) < 0 := by omega
  clear hE hN
  go_enter Try.func111, Try.ntmps111
  go_wp2_with fail
  generalize w.alloc (.cells #[.int .i64 a0, .int .i64 a1, .int .i64 a2, .slice A n c, .slice B k d] 154) = W at *
  generalize hb : w.heap.size = b0 at *
  clear hb; refine (C0.out _ _ h0 h1).mono ?_; rintro x w1 ⟨z, rfl, hz, u⟩
  have U := Lib.hid (U.out.trans u)
  have X := Lib.hid (X.out.up u)
  clear u
  rcases hz with rfl | ⟨z0, z1, hp⟩
  · go_wp2
    go_ret
    exact ⟨-1, rfl, .inl rfl, U.out⟩
  · have j0 : ¬ z < 0 := by omega
    have HP := Lib.hid hp
    clear hp
    have x4 := X.out.cell (j := 4) rfl
    have lx := X.out.lt
    go_wp2_with fail
    clear x4 lx; refine (C1.out _ _ z0 (by omega)).mono ?_; rintro x w2 ⟨y, rfl, hz, u⟩
    have U := Lib.hid (U.out.trans u)
    clear u
    rcases hz with rfl | ⟨y0, y1, hp⟩
    · go_wp2
      go_ret
      exact ⟨-1, rfl, .inl rfl, U.out⟩
    · have j1 : ¬ y < 0 := by omega
      have HQ := Lib.hid hp
      clear hp; go_wp2; go_ret
      exact ⟨y, rfl, .inr ⟨by omega, by omega, HP.out, HQ.out⟩, U.out⟩
set_option maxHeartbeats 2000000 in
theorem szChs_any (A : Option Addr) (n c : Nat) (hs : List Ch) (left : Int) (w : World) (h0 : 0 ≤ left) (h1 : left ≤ 1048576) (hR : ChsW w A n hs) :
    Calls Try.prog 52 #[.slice A n c, .int .i64 left] w (Sized (ShortCs hs) left w) := by
  have hbig := hR.2.1
  have HR := Lib.hid hR
  have LR := Lib.hid hR.1
  have CL := Lib.hid (fun h A n c B k d l W a b e f g i => szCh_any h A n c B k d l W a b e f g i)
  clear hR
  have i9 : IntKind.i64.wrap (left - (n : Int)) = left - n := IntWalk.i64_in _ (by omega)
  go_enter Try.func52, Try.ntmps52
  by_cases h : left < n
  · have j1 : left - n < 0 := by omega
    go_wp2; go_ret
    exact ⟨-1, rfl, .inl rfl, Up.refl _⟩
  · have j1 : ¬ left - n < 0 := by omega
    go_wp2
    go_loopw [1, 5] (fun s i wr => (∃ (l : Int) (k : Nat), k ≤ n ∧ s = .int .i64 l ∧ i = .int .i64 k ∧ 0 ≤ l ∧ l ≤ left ∧ Hid (∀ j, j < k → (hs.getD j default).wait.length ≤ 1048576 ∧ (hs.getD j default).ins.length ≤ 1048576)) ∧ Up w wr) (fun _ i _ => n - (intOf i).toNat)
    case atStart => exact ⟨⟨left - n, 0, by omega, rfl, rfl, by omega, by omega, Lib.hid (fun j hj => absurd hj (by omega))⟩, Up.refl _⟩
    case round =>
      obtain ⟨⟨l, k, hk, rfl, rfl, hl0, hl1, SM⟩, ur⟩ := hrel
      have UR := Lib.hid ur
      by_cases hlt : k < n
      · obtain ⟨b, off, hA, hb, hc⟩ := (HR.out.up ur).2.2 (by omega)
        subst hA
        have a0 := hc k hlt
        clear hc ur
        have cl := fun A n c B k' d W => CL.out (hs.getD k default) A n c B k' d l W hl0 (by omega)
        have SK := Lib.hid (fun (h : (hs.getD k default).wait.length ≤ 1048576 ∧ (hs.getD k default).ins.length ≤ 1048576) j (hj : j < k + 1) => (show (hs.getD j default).wait.length ≤ 1048576 ∧ (hs.getD j default).ins.length ≤ 1048576 from if e : j = k then e ▸ h else SM.out j (by omega)))
        generalize hs.getD k default = p at a0 cl SK
        obtain ⟨A3, n3, c3, A4, n4, c4, ⟨p0, p1, p2, p3, p4⟩, ⟨h5, h6⟩, h7, h8⟩ := a0
        have cl2 := cl A3 n3 c3 A4 n4 c4 wr h6 h8 h5 h7
        obtain ⟨⟨e0, e1, e2⟩, es, ex⟩ := p; dsimp only at p0 p1 p2 p3 p4 cl2 SK
        have C := Lib.hid cl2
        clear cl cl2 h5 h7
        have i4 : (k : Int) < n := by omega
        have i5 : IntKind.i64.wrap ((k : Int) + 1) = (k : Int) + 1 := IntWalk.i64_in _ (by omega)
        go_wp2_with fail
        refine C.out.mono ?_; rintro x w1 ⟨z, rfl, hz, u1⟩
        have U1 := Lib.hid (UR.out.trans u1)
        clear u1
        rcases hz with rfl | ⟨z0, z1, hp⟩
        · go_wp2
          go_ret
          exact ⟨-1, rfl, .inl rfl, U1.out⟩
        · have S2 := Lib.hid (SK.out hp)
          have j3 : ¬ z < 0 := by omega
          clear hp; go_wp2
          go_roundw
          case rel => exact ⟨⟨z, k + 1, by omega, rfl, by first | rfl | go_num, by omega, by omega, S2⟩, U1.out⟩
          case measure => (simp [intOf]; try omega)
      · have i4 : ¬ (k : Int) < n := by omega
        clear ur; go_wp2; go_ret
        exact ⟨l, rfl, .inr ⟨by omega, by omega, ⟨by rw [LR.out]; omega, fun j hj => SM.out j (by have := LR.out; omega)⟩⟩, UR.out⟩
set_option maxHeartbeats 2000000 in
theorem szLgs_any (A : Option Addr) (n c : Nat) (ls : List (List Rec)) (left : Int) (w : World) (h0 : 0 ≤ left) (h1 : left ≤ 1048576) (hR : LgsW w A n ls) :
    Calls Try.prog 53 #[.slice A n c, .int .i64 left] w (Sized (ShortLs ls) left w) := by
  have hbig := hR.2.1
  have HR := Lib.hid hR
  have LR := Lib.hid hR.1
  have CL := Lib.hid (fun A n c l W (a : 0 ≤ l) (b : l ≤ 1048576) hn => (szR_any A n c l W a b hn).mono fun x w' h => sized_if a b h)
  clear hR
  have i9 : IntKind.i64.wrap (left - (n : Int)) = left - n := IntWalk.i64_in _ (by omega)
  go_enter Try.func53, Try.ntmps53
  by_cases h : left < n
  · have j1 : left - n < 0 := by omega
    go_wp2; go_ret
    exact ⟨-1, rfl, .inl rfl, Up.refl _⟩
  · have j1 : ¬ left - n < 0 := by omega
    go_wp2
    go_loopw [1, 5] (fun s i wr => (∃ (l : Int) (k : Nat), k ≤ n ∧ s = .int .i64 l ∧ i = .int .i64 k ∧ 0 ≤ l ∧ l ≤ left ∧ Hid (∀ j, j < k → (ls.getD j []).length ≤ 1048576)) ∧ Up w wr) (fun _ i _ => n - (intOf i).toNat)
    case atStart => exact ⟨⟨left - n, 0, by omega, rfl, rfl, by omega, by omega, Lib.hid (fun j hj => absurd hj (by omega))⟩, Up.refl _⟩
    case round =>
      obtain ⟨⟨l, k, hk, rfl, rfl, hl0, hl1, SM⟩, ur⟩ := hrel
      have UR := Lib.hid ur
      by_cases hlt : k < n
      · obtain ⟨b, off, hA, hb, hc⟩ := (HR.out.up ur).2.2 (by omega)
        subst hA; obtain ⟨A3, n3, c3, p0, he3, hn3⟩ := hc k hlt; clear hc ur
        have C := Lib.hid (CL.out A3 n3 c3 l wr hl0 (by omega) hn3)
        have SK := Lib.hid (fun (h : n3 ≤ 1048576) j (hj : j < k + 1) => (show (ls.getD j []).length ≤ 1048576 from if e : j = k then by rw [e, he3.1]; exact h else SM.out j (by omega)))
        clear he3
        have i4 : (k : Int) < n := by omega
        have i5 : IntKind.i64.wrap ((k : Int) + 1) = (k : Int) + 1 := IntWalk.i64_in _ (by omega)
        go_wp2_with fail
        refine C.out.mono ?_; rintro x w1 ⟨z, rfl, hz, u1⟩
        have U1 := Lib.hid (UR.out.trans u1)
        clear u1
        rcases hz with rfl | ⟨z0, z1, hp⟩
        · go_wp2
          go_ret
          exact ⟨-1, rfl, .inl rfl, U1.out⟩
        · have S2 := Lib.hid (SK.out hp)
          have j3 : ¬ z < 0 := by omega
          clear hp; go_wp2
          go_roundw
          case rel => exact ⟨⟨z, k + 1, by omega, rfl, by first | rfl | go_num, by omega, by omega, S2⟩, U1.out⟩
          case measure => (simp [intOf]; try omega)
      · have i4 : ¬ (k : Int) < n := by omega
        clear ur; go_wp2; go_ret
        exact ⟨l, rfl, .inr ⟨by omega, by omega, ⟨by rw [LR.out]; omega, fun j hj => SM.out j (by have := LR.out; omega)⟩⟩, UR.out⟩
/-- A simulation in memory, however long its lists. -/
structure CbW (w : World) (A : Option Addr) (n : Nat) (B : Option Addr) (k : Nat) (hs : List Ch) (ls : List (List Rec)) : Prop where
  hosts : ChsW w A n hs
  logs : LgsW w B k ls
theorem CbW.up {w w' : World} {A B : Option Addr} {n k : Nat} {hs : List Ch} {ls : List (List Rec)} (h : CbW w A n B k hs ls) (u : Up w w') : CbW w' A n B k hs ls := ⟨h.hosts.up u, h.logs.up u⟩
structure ShortCb (hs : List Ch) (ls : List (List Rec)) : Prop where
  hosts : ShortCs hs
  logs : ShortLs ls
theorem CbW.v {w : World} {A B : Option Addr} {n k : Nat} {hs : List Ch} {ls : List (List Rec)} (h : CbW w A n B k hs ls) (s : ShortCb hs ls) : CbV w A n B k hs ls :=
  ⟨h.hosts.chs s.hosts, h.logs.lgs s.logs, by rw [← h.hosts.1]; exact s.hosts.few, by rw [← h.logs.1]; exact s.logs.few⟩
set_option maxHeartbeats 2000000 in
theorem szCmb_any (HA : Option Addr) (n hc : Nat) (LB : Option Addr) (k lc : Nat) (hs : List Ch) (ls : List (List Rec)) (left : Int) (w : World) (h0 : 0 ≤ left) (h1 : left ≤ 1048576) (hV : CbW w HA n LB k hs ls) :
    Calls Try.prog 12 #[.agg #[.slice HA n hc, .slice LB k lc], .int .i64 left] w (Sized (ShortCb hs ls) left w) := by
  have C0 := Lib.hid (fun l W (u : Up w W) a b => szChs_any HA n hc hs l W a b (hV.hosts.up u))
  have C1 := Lib.hid (fun l W (u : Up w W) a b => szLgs_any LB k lc ls l W a b (hV.logs.up u))
  have X := Lib.hid (Blk.new w #[.slice HA n hc, .slice LB k lc] 29)
  have U := Lib.hid ((Up.refl w).alloc (.cells #[.slice HA n hc, .slice LB k lc] 29))
  have jm : (-1 : Int) < 0 := by omega
  clear hV
  go_enter Try.func12, Try.ntmps12
  go_wp2_with fail
  generalize w.alloc (.cells #[.slice HA n hc, .slice LB k lc] 29) = W at *
  generalize hb : w.heap.size = b0 at *
  clear hb; refine (C0.out _ _ U.out h0 h1).mono ?_; rintro x w1 ⟨z, rfl, hz, u⟩
  have U := Lib.hid (U.out.trans u)
  have X := Lib.hid (X.out.up u)
  clear u
  rcases hz with rfl | ⟨z0, z1, hp⟩
  · go_wp2
    go_ret
    exact ⟨-1, rfl, .inl rfl, U.out⟩
  · have j0 : ¬ z < 0 := by omega
    have HP := Lib.hid hp
    clear hp
    have x1 := X.out.cell (j := 1) rfl
    have lx := X.out.lt
    go_wp2_with fail
    clear x1 lx; refine (C1.out _ _ U.out z0 (by omega)).mono ?_; rintro x w2 ⟨y, rfl, hz, u⟩
    have U := Lib.hid (U.out.trans u)
    clear u
    rcases hz with rfl | ⟨y0, y1, hp⟩
    · go_wp2
      go_ret
      exact ⟨-1, rfl, .inl rfl, U.out⟩
    · have j1 : ¬ y < 0 := by omega
      have HQ := Lib.hid hp
      clear hp; go_wp2; go_ret
      exact ⟨y, rfl, .inr ⟨by omega, by omega, HP.out, HQ.out⟩, U.out⟩
end Go.Proofs.Ytklldniapombiaa

namespace Go.Proofs.Ytklldniapombiaa
set_option maxRecDepth 100000
open Go.ChangeShapes Go.WideShapes Go.ChangeAt Go.RowKit Go.Joins Go.Deep
set_option linter.unusedVariables false
section
variable {H : Type} {enc : TypeId × Value → H} {P : Program} {w : World} {base : Nat} {spare : Nat → Bool} {held : Bool}
/-- A slice whose elements are s cells each, of which each says Q of something. -/
theorem open_listc {α : Type} [Inhabited α] {Q : List Value → α → Prop} {t e : TypeId} {s fuel : Nat} {v : Value} {y : DataW H × List MemPlace} (ht : P.underlying t = some (.slice e)) (hC : P.cellsOf e = s) (hs : 0 < s)
    (hQ : ∀ fuel cs x, cs.length = s → DataW.trod enc P w base spare held fuel e cs = some x → ∃ a, Q cs a) (hf : DataW.trod enc P w base spare held fuel t [v] = some y) :
    ∃ A len c, v = .slice A len c ∧ len ≤ 9223372036854775807 ∧ ∃ xs : List α, xs.length = len ∧ (0 < len → ∃ b off, A = some ⟨b, off, none⟩ ∧ b < w.heap.size ∧ ∀ i, i < len → ∃ cs, cs.length = s ∧ Q cs (xs.getD i default) ∧ ∀ j, (h : j < s) → w.cell? ⟨b, off + i * s + j, none⟩ = cs[j]?) := by
  rcases open_slice ht hf with ⟨hcs, _⟩ | ⟨a, len, c, m, n, D, Pl, hcs, _, hl, hm, hmm, _, hi⟩
  · simp only [List.cons.injEq, and_true] at hcs
    exact ⟨none, 0, 0, hcs, by omega, [], rfl, fun h => absurd h (by omega)⟩
  · simp only [List.cons.injEq, and_true] at hcs
    have hnm : len ≤ m := by rw [hmm]; split <;> omega
    have one : ∀ i, i < len → ∃ x : α, ∃ cs, cs.length = s ∧ Q cs x ∧ ∀ j, j < s → w.cell? (a.add (i * s + j)) = cs[j]? := by
      intro i hin; obtain ⟨cs', hc, ht'⟩ := hi i (by omega); rw [hC] at hc; obtain ⟨_, hcl, hat⟩ := World.cells?_some hc; obtain ⟨x, hx⟩ := hQ _ cs' _ hcl ht'; refine ⟨x, cs', hcl, hx, fun j hj => ?_⟩
      have := hat j hj
      rw [Go.Deep.add_add] at this
      exact this
    obtain ⟨xs, hlen, hxs⟩ := list_of len one; obtain ⟨b, off, spot⟩ := a
    have nosp : 0 < len → spot = none := fun h0 => by
      obtain ⟨cs, hcl, _, hj⟩ := hxs 0 h0
      have := hj 0 hs
      rw [List.getElem?_eq_getElem (by omega)] at this
      simpa [Addr.add] using World.cell?_spot this
    have ad : ∀ k, (⟨b, off, none⟩ : Addr).add k = ⟨b, off + k, none⟩ := fun k => by
      unfold Addr.add
      split
      · rename_i h0; subst h0; rfl
      · rfl
    refine ⟨_, len, c, hcs, by unfold maxLen at hm; omega, xs, hlen, fun h0 => ?_⟩; obtain rfl := nosp h0; refine ⟨b, off, rfl, ?_, fun i hin => ?_⟩
    · obtain ⟨cs, hcl, _, hj⟩ := hxs 0 h0
      have := hj 0 hs
      rw [List.getElem?_eq_getElem (by omega), ad] at this
      exact block_lt this
    · obtain ⟨cs, hcl, hq, hj⟩ := hxs i hin
      refine ⟨cs, hcl, hq, fun j hjs => ?_⟩
      have := hj j hjs
      rw [ad] at this; rw [← this]
      congr 2
      omega
end
section
variable {H : Type} {enc : TypeId × Value → H} {w : World} {base : Nat} {spare : Nat → Bool} {held : Bool}
theorem int_qc (fuel : Nat) (c : Value) (x : DataW H × List MemPlace) (h : DataW.trod enc Try.prog w base spare held fuel 3 [c] = some x) : ∃ z : Int, c = .int .i64 z := by
  obtain ⟨z, e, _, _⟩ := DataW.trod_int Try.underlying3 h; simp only [List.cons.injEq, and_true] at e
  exact ⟨z, e⟩
theorem cst_qc (fuel : Nat) (c0 c1 c2 : Value) (x : DataW H × List MemPlace) (h : DataW.trod enc Try.prog w base spare held fuel 152 [c0, c1, c2] = some x) :
    ∃ e : Cst, c0 = .int .i64 e.s ∧ c1 = .int .i64 e.sq ∧ c2 = .int .i64 e.ct := by
  obtain ⟨f0, f1, f2, hu, o0, o1, o2, t0, t1, t2⟩ := (⟨_, _, _, Try.underlying152, rfl, rfl, rfl, rfl, rfl, rfl⟩ : ∃ f0 f1 f2 : Field, Try.prog.underlying 152 = some (.struct #[f0, f1, f2]) ∧ f0.offset = 0 ∧ f1.offset = 1 ∧ f2.offset = 2 ∧ f0.type = 3 ∧ f1.type = 3 ∧ f2.type = 3); obtain ⟨ys, n', _, _, _, hyl, hf⟩ := DataW.trod_struct hu h
  have hyl : ys.length = 3 := hyl
  have k1 : Try.prog.cellsOf 3 = 1 := by kernel_rfl
  have h0 := hf 0 f0 rfl
  have h1 := hf 1 f1 rfl
  have h2 := hf 2 f2 rfl
  rw [o0, t0, k1, List.getElem?_eq_getElem (by omega : 0 < ys.length)] at h0; rw [o1, t1, k1, List.getElem?_eq_getElem (by omega : 1 < ys.length)] at h1; rw [o2, t2, k1, List.getElem?_eq_getElem (by omega : 2 < ys.length)] at h2; obtain ⟨z0, e0⟩ := int_qc _ _ _ h0; obtain ⟨z1, e1⟩ := int_qc _ _ _ h1; obtain ⟨z2, e2⟩ := int_qc _ _ _ h2
  exact ⟨⟨z0, z1, z2⟩, e0, e1, e2⟩
theorem open_evsc {v : Value} {fuel : Nat} {y : DataW H × List MemPlace} (hf : DataW.trod enc Try.prog w base spare held fuel 23 [v] = some y) : ∃ A n c xs, v = .slice A n c ∧ n ≤ 9223372036854775807 ∧ Evs w A n xs := by
  obtain ⟨A, n, c, rfl, hbig, hA, hi⟩ := open_nums Try.underlying23 cells157 (by omega) ev_nums hf
  have one : ∀ i, i < n → ∃ x : Evt, ∃ b off, A = some ⟨b, off, none⟩ ∧ EvAt w b (off + i * 6) x := by
    intro i hin; obtain ⟨b, off, rfl, f⟩ := hi i hin; obtain ⟨z0, g0⟩ := f 0 (by omega); obtain ⟨z1, g1⟩ := f 1 (by omega); obtain ⟨z2, g2⟩ := f 2 (by omega); obtain ⟨z3, g3⟩ := f 3 (by omega); obtain ⟨z4, g4⟩ := f 4 (by omega); obtain ⟨z5, g5⟩ := f 5 (by omega)
    exact ⟨⟨z0, z1, z2, z3, z4, z5⟩, b, off, rfl, g0, g1, g2, g3, g4, g5⟩
  obtain ⟨xs, hlen, hxs⟩ := list_of n one; refine ⟨A, n, c, xs, rfl, hbig, hlen, fun hn => ?_⟩; obtain ⟨b, off, rfl, hb⟩ := hA hn; refine ⟨b, off, rfl, hb, fun i hin => ?_⟩; obtain ⟨b', off', e, h⟩ := hxs i hin
  injection e with e
  injection e with e1 e2 _
  subst e1 e2
  exact h
theorem open_nmsc {v : Value} {fuel : Nat} {y : DataW H × List MemPlace} (hf : DataW.trod enc Try.prog w base spare held fuel 84 [v] = some y) : ∃ A n c xs, v = .slice A n c ∧ n ≤ 9223372036854775807 ∧ Nms w A n xs := by
  have k1 : Try.prog.cellsOf 3 = 1 := by kernel_rfl
  obtain ⟨A, n, c, rfl, hbig, hA, hi⟩ := open_nums Try.underlying84 k1 (by omega) (fun fuel cs x hcl h j hj => by
    match cs, hcl with
    | [c0], _ =>
      obtain ⟨z, rfl⟩ := int_qc _ _ _ h
      obtain rfl : j = 0 := by omega
      exact ⟨z, rfl⟩) hf
  have one : ∀ i, i < n → ∃ x : Int, ∃ b off, A = some ⟨b, off, none⟩ ∧ w.cell? ⟨b, off + i, none⟩ = some (.int .i64 x) := by
    intro i hin; obtain ⟨b, off, rfl, f⟩ := hi i hin; obtain ⟨z0, g0⟩ := f 0 (by omega)
    exact ⟨z0, b, off, rfl, by simpa using g0⟩
  obtain ⟨xs, hlen, hxs⟩ := list_of n one; refine ⟨A, n, c, xs, rfl, hbig, hlen, fun hn => ?_⟩; obtain ⟨b, off, rfl, hb⟩ := hA hn; refine ⟨b, off, rfl, hb, fun i hin => ?_⟩; obtain ⟨b', off', e, h⟩ := hxs i hin
  injection e with e
  injection e with e1 e2 _
  subst e1 e2
  exact h
theorem cells154 : Try.prog.cellsOf 154 = 5 := by kernel_rfl
def ChQ (w : World) (cs : List Value) (h : Ch) : Prop := ∃ A n c B k d, cs = [.int .i64 h.now.s, .int .i64 h.now.sq, .int .i64 h.now.ct, .slice A n c, .slice B k d] ∧ (Evs w A n h.wait ∧ n ≤ 9223372036854775807) ∧ Nms w B k h.ins ∧ k ≤ 9223372036854775807
theorem ch_q (fuel : Nat) (cs : List Value) (x : DataW H × List MemPlace) (hcl : cs.length = 5) (h : DataW.trod enc Try.prog w base spare held fuel 154 cs = some x) : ∃ d : Ch, ChQ w cs d := by
  obtain ⟨f0, f1, f2, hu, o0, o1, o2, t0, t1, t2⟩ := (⟨_, _, _, Try.underlying154, rfl, rfl, rfl, rfl, rfl, rfl⟩ : ∃ f0 f1 f2 : Field, Try.prog.underlying 154 = some (.struct #[f0, f1, f2]) ∧ f0.offset = 0 ∧ f1.offset = 3 ∧ f2.offset = 4 ∧ f0.type = 152 ∧ f1.type = 23 ∧ f2.type = 84); obtain ⟨ys, n', _, _, _, hyl, hf⟩ := DataW.trod_struct hu h
  have hyl : ys.length = 3 := hyl
  have k1 : Try.prog.cellsOf 84 = 1 := by kernel_rfl
  have k2 : Try.prog.cellsOf 23 = 1 := by kernel_rfl
  match cs, hcl with
  | [c0, c1, c2, c3, c4], _ =>
    have h0 := hf 0 f0 rfl
    have h1 := hf 1 f1 rfl
    have h2 := hf 2 f2 rfl
    rw [o0, t0, cells152, List.getElem?_eq_getElem (by omega : 0 < ys.length)] at h0; rw [o1, t1, k2, List.getElem?_eq_getElem (by omega : 1 < ys.length)] at h1; rw [o2, t2, k1, List.getElem?_eq_getElem (by omega : 2 < ys.length)] at h2; obtain ⟨e, rfl, rfl, rfl⟩ := cst_qc _ _ _ _ _ h0; obtain ⟨A, n, c, xs, rfl, hb, he⟩ := open_evsc (v := c3) h1; obtain ⟨B, k, d, zs, rfl, hk, hz⟩ := open_nmsc (v := c4) h2
    exact ⟨⟨e, xs, zs⟩, A, n, c, B, k, d, rfl, ⟨he, hb⟩, hz, hk⟩
theorem open_chs {v : Value} {fuel : Nat} {y : DataW H × List MemPlace} (hf : DataW.trod enc Try.prog w base spare held fuel 26 [v] = some y) : ∃ A n c xs, v = .slice A n c ∧ ChsW w A n xs := by
  obtain ⟨A, n, c, rfl, hbig, xs, hl, hx⟩ := open_listc (Q := ChQ w) Try.underlying26 cells154 (by omega) ch_q hf; refine ⟨A, n, c, xs, rfl, hl, hbig, fun hn => ?_⟩; obtain ⟨b, off, hA, hb, hi⟩ := hx hn; refine ⟨b, off, hA, hb, fun i hin => ?_⟩; obtain ⟨cs, hcl, ⟨A', n', c', B', k', d', hq, hh⟩, hj⟩ := hi i hin; subst hq
  exact ⟨A', n', c', B', k', d', ⟨hj 0 (by omega), hj 1 (by omega), hj 2 (by omega), hj 3 (by omega), hj 4 (by omega)⟩, hh⟩
def LgQ (w : World) (cs : List Value) (rs : List Rec) : Prop := ∃ A n c, cs = [.slice A n c] ∧ Recs w A n rs ∧ n ≤ 9223372036854775807
theorem open_lgs {v : Value} {fuel : Nat} {y : DataW H × List MemPlace} (hf : DataW.trod enc Try.prog w base spare held fuel 27 [v] = some y) : ∃ A n c xs, v = .slice A n c ∧ LgsW w A n xs := by
  have k1 : Try.prog.cellsOf 54 = 1 := by kernel_rfl
  obtain ⟨A, n, c, rfl, hbig, xs, hl, hx⟩ := open_listc (Q := LgQ w) Try.underlying27 k1 (by omega) (fun fuel cs x hcl h => by
    match cs, hcl with
    | [c0], _ =>
      obtain ⟨A, n, c, xs, rfl, hb, hr⟩ := open_recs h
      exact ⟨xs, A, n, c, rfl, hr, hb⟩) hf
  refine ⟨A, n, c, xs, rfl, hl, hbig, fun hn => ?_⟩; obtain ⟨b, off, hA, hb, hi⟩ := hx hn; refine ⟨b, off, hA, hb, fun i hin => ?_⟩; obtain ⟨cs, hcl, ⟨A', n', c', hq, hr, hb'⟩, hj⟩ := hi i hin; subst hq
  have := hj 0 (by omega)
  exact ⟨A', n', c', by simpa using this, hr, hb'⟩
theorem cells29 : Try.prog.cellsOf 29 = 2 := by kernel_rfl
theorem open_cmb {r : Reach} {b0 : Nat} {v : Value} {d : DataW H} {p : List MemPlace} (hv : Value.okWide Try.prog w r b0 29 v) (h : DataW.Trod enc Try.prog w base spare held 29 v d p) :
    ∃ x : List Ch × List (List Rec), ∃ HA nh hc LB nl lc, v = .agg #[.slice HA nh hc, .slice LB nl lc] ∧ CbW w HA nh LB nl x.1 x.2 := by
  obtain ⟨f0, f1, hu, o0, o1, t0, t1⟩ := (⟨_, _, Try.underlying29, rfl, rfl, rfl, rfl⟩ : ∃ f0 f1 : Field, Try.prog.underlying 29 = some (.struct #[f0, f1]) ∧ f0.offset = 0 ∧ f1.offset = 1 ∧ f0.type = 26 ∧ f1.type = 27); obtain ⟨cs, rfl, hsz⟩ := okWide_struct hu hv; obtain ⟨l⟩ := cs
  have k1 : Try.prog.cellsOf 26 = 1 := by kernel_rfl
  have k2 : Try.prog.cellsOf 27 = 1 := by kernel_rfl
  match l, hsz.trans cells29 with
  | [c0, c1], _ =>
    obtain ⟨fuel, hf⟩ := h; obtain ⟨ys, n', _, _, _, hyl, hg⟩ := DataW.trod_struct hu hf
    have hyl : ys.length = 2 := hyl
    have h0 := hg 0 f0 rfl
    have h1 := hg 1 f1 rfl
    rw [o0, t0, k1, List.getElem?_eq_getElem (by omega : 0 < ys.length)] at h0; rw [o1, t1, k2, List.getElem?_eq_getElem (by omega : 1 < ys.length)] at h1; obtain ⟨HA, nh, hc, hs, rfl, hh⟩ := open_chs (v := c0) h0; obtain ⟨LB, nl, lc, ls, rfl, hl⟩ := open_lgs (v := c1) h1
    exact ⟨⟨hs, ls⟩, HA, nh, hc, LB, nl, lc, rfl, hh, hl⟩
end
end Go.Proofs.Ytklldniapombiaa

namespace Go.Proofs.Ytklldniapombiaa
set_option maxRecDepth 100000
open Go.RowKit
/-- What takes says of an event, in a machine of so many components and that end. -/
theorem takes_any (M : Value) (many til : Int) (e : Evt) (mp : Option Nat) (hM : M = .agg #[.map mp, .int .i64 many, .int .i64 til]) (w : World) :
    Calls Try.prog 93 #[M, e.v] w fun z w' => z = .returned (.bool (okB e many && decide (e.t ≤ til))) ∧ Up w w' := by
  subst hM
  have OC := Lib.hid (fun W => implOk_any e many W)
  generalize okB e many = b at OC ⊢
  obtain ⟨et, eto, efr, esq, ekd, edt⟩ := e
  have X3 := Lib.hid ((Box3.new w (.map mp) (.int .i64 many) (.int .i64 til) 109).up ((Up.refl _).alloc (.cells #[.int .i64 et, .int .i64 eto, .int .i64 efr, .int .i64 esq, .int .i64 ekd, .int .i64 edt] 74)))
  unfold Evt.v at OC ⊢; dsimp only at OC ⊢
  go_enter Try.func93, Try.ntmps93
  go_wp2_with fail
  refine (OC.out _).mono ?_; rintro v w1 ⟨rfl, u1⟩
  have x3 := X3.out.up u1
  have x5 := (Box.new (w.alloc (.cells #[.map mp, .int .i64 many, .int .i64 til] 109)) ⟨et, eto, efr, esq, ekd, edt⟩ 74).up u1
  simp only [World.size_alloc] at x5; obtain ⟨b0, b1, b2⟩ := And.intro x3.c0 (And.intro x3.c1 x3.c2); obtain ⟨⟨y0, y1, y2, y3, y4, y5⟩, -⟩ := x5.mk6
  have U := Lib.hid ((((Up.refl w).alloc (.cells #[.map mp, .int .i64 many, .int .i64 til] 109)).alloc (.cells #[.int .i64 et, .int .i64 eto, .int .i64 efr, .int .i64 esq, .int .i64 ekd, .int .i64 edt] 74)).trans u1)
  clear x3 x5 u1
  cases b
  · go_wp2
    go_ret
    exact ⟨rfl, U.out⟩
  · go_wp2
    go_ret
    exact ⟨by simp, U.out⟩
end Go.Proofs.Ytklldniapombiaa

namespace Go.Proofs.Ytklldniapombiaa
set_option maxRecDepth 100000
open Go.RowKit
/-- Is a record one, among so many components? -/
def recB (many : Int) (r : Rec) : Bool := okB r.ev many && inB r.s 0 96
end Go.Proofs.Ytklldniapombiaa

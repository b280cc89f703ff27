/-
  What szMdlRule, szMdlRuleS, szMdlRuleSS and szMdlModel return, in one sentence: -1, or what is left, and then each list is short; for all that lie in memory.
-/
import Derived.Test.YtojnphchkdjafaaMEq
namespace Go.Proofs.Ytojnphchkdjafaa
set_option maxRecDepth 100000
open Go.RowKit

/-- What a count gives. -/
def Sized (p : Prop) (left : Int) (w : World) (x : Ending) (w' : World) : Prop :=
  ∃ z : Int, x = .returned (.int .i64 z) ∧ (z = -1 ∨ (0 ≤ z ∧ z ≤ left ∧ p)) ∧ Up w w'

structure ShortR (rs : List Rule) : Prop where
  few : rs.length ≤ 1048576
  small : Small rs
structure ShortS (rs : List (List Rule)) (n : Nat) : Prop where
  small : ∀ i, i < rs.length → (rs.getD i []).length ≤ 1048576 ∧ Small (rs.getD i [])
  few : n ≤ 1048576
structure ShortM (m : Mdl) (n : Nat) : Prop where
  fit : FitM m
  few : n ≤ 1048576
  shorts : ∀ i, i < m.rules.length → (m.rules.getD i []).length ≤ 1048576 ∧ Small (m.rules.getD i [])

theorem szRule_any (r : Rule) (A : Option Addr) (n c : Nat) (left : Int) (w : World) (h0 : 0 ≤ left) (h1 : left ≤ 1048576) (hn : n ≤ 9223372036854775807) (hE : Evs w A n r.sends) :
    Calls Try.prog 90 #[r.v (.slice A n c), .int .i64 left] w (Sized (r.sends.length ≤ 1048576) left w) := by
  have CL := Lib.hid (fun W => szSnd_any A n c left W h0 (by omega) hn)
  have LE := Lib.hid hE.1
  obtain ⟨kd, ra, rb, rc, es⟩ := r
  clear hE
  unfold Rule.v
  dsimp only
  by_cases h : left < n
  · have j1 : (-1 : Int) < 0 := by omega
    have C2 := Lib.hid (if_pos h ▸ CL.out)
    clear CL
    go_enter Try.func90, Try.ntmps90
    go_wp2_with fail
    refine (C2.out _).mono ?_
    rintro x w1 ⟨rfl, rfl⟩
    go_wp2
    go_ret
    exact ⟨-1, rfl, .inl rfl, (Up.refl _).alloc _⟩
  · have j1 : ¬ left - n < 0 := by omega
    have C2 := Lib.hid (if_neg h ▸ CL.out)
    have PP := Lib.hid (show es.length ≤ 1048576 by rw [LE.out]; omega)
    clear CL
    go_enter Try.func90, Try.ntmps90
    go_wp2_with fail
    refine (C2.out _).mono ?_
    rintro x w1 ⟨rfl, rfl⟩
    go_wp2
    go_ret
    exact ⟨left - n, rfl, .inr ⟨by omega, by omega, PP.out⟩, (Up.refl _).alloc _⟩

set_option maxHeartbeats 2000000 in
theorem szRuleS_any (A : Option Addr) (n c : Nat) (rs : List Rule) (left : Int) (w : World) (h0 : 0 ≤ left) (h1 : left ≤ 1048576) (hR : Rules w A n rs) :
    Calls Try.prog 73 #[.slice A n c, .int .i64 left] w (Sized (ShortR rs) left w) := by
  have hbig := hR.2.1
  have HR := Lib.hid hR
  have LR := Lib.hid hR.1
  have CL := Lib.hid (fun r A n c l W a b hn hE => szRule_any r A n c l W a b hn hE)
  clear hR
  have i9 : IntKind.i64.wrap (left - (n : Int)) = left - n := IntWalk.i64_in _ (by omega)
  go_enter Try.func73, Try.ntmps73
  by_cases h : left < n
  · have j1 : left - n < 0 := by omega
    go_wp2
    go_ret
    exact ⟨-1, rfl, .inl rfl, Up.refl _⟩
  · have j1 : ¬ left - n < 0 := by omega
    go_wp2
    go_loopw [1, 5] (fun s i wr => (∃ (l : Int) (k : Nat), k ≤ n ∧ s = .int .i64 l ∧ i = .int .i64 k ∧ 0 ≤ l ∧ l ≤ left ∧ Hid (∀ j, j < k → (rs.getD j default).sends.length ≤ 1048576)) ∧ Up w wr) (fun _ i _ => n - (intOf i).toNat)
    case atStart => exact ⟨⟨left - n, 0, by omega, rfl, rfl, by omega, by omega, Lib.hid (fun j hj => absurd hj (by omega))⟩, Up.refl _⟩
    case round =>
      obtain ⟨⟨l, k, hk, rfl, rfl, hl0, hl1, SM⟩, ur⟩ := hrel
      have UR := Lib.hid ur
      by_cases hlt : k < n
      · obtain ⟨b, off, hA, hb, hc⟩ := (HR.out.up ur).2.2 (by omega)
        subst hA
        have a0 := hc k hlt
        clear hc ur
        have cl := fun A n c W => CL.out (rs.getD k default) A n c l W hl0 (by omega)
        have SK := Lib.hid (fun (h : (rs.getD k default).sends.length ≤ 1048576) j (hj : j < k + 1) => (show (rs.getD j default).sends.length ≤ 1048576 from if e : j = k then e ▸ h else SM.out j (by omega)))
        generalize rs.getD k default = p at a0 cl SK
        obtain ⟨A3, n3, c3, ⟨p0, p1, p2, p3, p4⟩, hn3, he3⟩ := a0
        have cl2 := fun W (u : Up wr W) => cl A3 n3 c3 W hn3 (he3.up u)
        obtain ⟨pk, pa, pb, pc, ps⟩ := p
        unfold Rule.v at cl2
        dsimp only at p0 p1 p2 p3 p4 cl2 SK
        have C := Lib.hid cl2
        clear cl cl2 he3
        have i4 : (k : Int) < n := by omega
        have i5 : IntKind.i64.wrap ((k : Int) + 1) = (k : Int) + 1 := IntWalk.i64_in _ (by omega)
        go_wp2_with fail
        refine (C.out _ (Up.refl _)).mono ?_
        rintro x w1 ⟨z, rfl, hz, u1⟩
        have U1 := Lib.hid (UR.out.trans u1)
        clear u1
        rcases hz with rfl | ⟨z0, z1, hp⟩
        · go_wp2
          go_ret
          exact ⟨-1, rfl, .inl rfl, U1.out⟩
        · have S2 := Lib.hid (SK.out hp)
          have j3 : ¬ z < 0 := by omega
          clear hp
          go_wp2
          go_roundw
          case rel => exact ⟨⟨z, k + 1, by omega, rfl, by first | rfl | go_num, by omega, by omega, S2⟩, U1.out⟩
          case measure => (simp [intOf]; try omega)
      · have i4 : ¬ (k : Int) < n := by omega
        clear ur
        go_wp2
        go_ret
        exact ⟨l, rfl, .inr ⟨by omega, by omega, ⟨by rw [LR.out]; omega, fun j hj => SM.out j (by have := LR.out; omega)⟩⟩, UR.out⟩

set_option maxHeartbeats 2000000 in
theorem szRuleSS_any (A : Option Addr) (n c : Nat) (rs : List (List Rule)) (left : Int) (w : World) (h0 : 0 ≤ left) (h1 : left ≤ 1048576) (hR : Rulz w A n rs) :
    Calls Try.prog 46 #[.slice A n c, .int .i64 left] w (Sized (ShortS rs n) left w) := by
  have hbig := hR.2.1
  have HR := Lib.hid hR
  have LR := Lib.hid hR.1
  have CL := Lib.hid (fun r A n c l W a b hE => szRuleS_any A n c r l W a b hE)
  clear hR
  have i9 : IntKind.i64.wrap (left - (n : Int)) = left - n := IntWalk.i64_in _ (by omega)
  go_enter Try.func46, Try.ntmps46
  by_cases h : left < n
  · have j1 : left - n < 0 := by omega
    go_wp2
    go_ret
    exact ⟨-1, rfl, .inl rfl, Up.refl _⟩
  · have j1 : ¬ left - n < 0 := by omega
    have hnn : n ≤ 1048576 := by omega
    go_wp2
    go_loopw [1, 5] (fun s i wr => (∃ (l : Int) (k : Nat), k ≤ n ∧ s = .int .i64 l ∧ i = .int .i64 k ∧ 0 ≤ l ∧ l ≤ left ∧ Hid (∀ j, j < k → (rs.getD j []).length ≤ 1048576 ∧ Small (rs.getD j []))) ∧ Up w wr) (fun _ i _ => n - (intOf i).toNat)
    case atStart => exact ⟨⟨left - n, 0, by omega, rfl, rfl, by omega, by omega, Lib.hid (fun j hj => absurd hj (by omega))⟩, Up.refl _⟩
    case round =>
      obtain ⟨⟨l, k, hk, rfl, rfl, hl0, hl1, SM⟩, ur⟩ := hrel
      have UR := Lib.hid ur
      by_cases hlt : k < n
      · obtain ⟨b, off, hA, hb, hc⟩ := (HR.out.up ur).2.2 (by omega)
        subst hA
        obtain ⟨A3, n3, c3, p0, he3⟩ := hc k hlt
        clear hc ur
        have cl := fun W (u : Up wr W) => CL.out (rs.getD k []) A3 n3 c3 l W hl0 (by omega) (he3.up u)
        have SK := Lib.hid (fun (h : ShortR (rs.getD k [])) j (hj : j < k + 1) => (show (rs.getD j []).length ≤ 1048576 ∧ Small (rs.getD j []) from if e : j = k then e ▸ ⟨h.few, h.small⟩ else SM.out j (by omega)))
        generalize rs.getD k [] = p at cl SK he3
        have C := Lib.hid cl
        clear cl he3
        have i4 : (k : Int) < n := by omega
        have i5 : IntKind.i64.wrap ((k : Int) + 1) = (k : Int) + 1 := IntWalk.i64_in _ (by omega)
        go_wp2_with fail
        refine (C.out _ (Up.refl _)).mono ?_
        rintro x w1 ⟨z, rfl, hz, u1⟩
        have U1 := Lib.hid (UR.out.trans u1)
        clear u1
        rcases hz with rfl | ⟨z0, z1, hp⟩
        · go_wp2
          go_ret
          exact ⟨-1, rfl, .inl rfl, U1.out⟩
        · have S2 := Lib.hid (SK.out hp)
          have j3 : ¬ z < 0 := by omega
          clear hp
          go_wp2
          go_roundw
          case rel => exact ⟨⟨z, k + 1, by omega, rfl, by first | rfl | go_num, by omega, by omega, S2⟩, U1.out⟩
          case measure => (simp [intOf]; try omega)
      · have i4 : ¬ (k : Int) < n := by omega
        clear ur
        go_wp2
        go_ret
        exact ⟨l, rfl, .inr ⟨by omega, by omega, ⟨fun j hj => SM.out j (by have := LR.out; omega), by omega⟩⟩, UR.out⟩

set_option maxHeartbeats 2000000 in
theorem szMdl_any (A : Option Addr) (n c : Nat) (B : Option Addr) (k d : Nat) (m : Mdl) (w : World) (hM : MdlV w A n B k m) :
    Calls Try.prog 19 #[.agg #[.slice A n c, .slice B k d, .int .i64 m.til], .int .i64 1048576] w (Sized (ShortM m n) 1048576 w) := by
  obtain ⟨rs, es, til⟩ := m
  have CR := Lib.hid (fun W (u : Up w W) => szRuleSS_any A n c rs 1048576 W (by omega) (by omega) (hM.rules.up u))
  have CE := Lib.hid (fun l W a b => sz_any B k d l W a b hM.big)
  have LE := Lib.hid hM.starts.1
  have B0 := Lib.hid (Box3.new w (.slice A n c) (.slice B k d) (.int .i64 til) 47)
  clear hM
  dsimp only
  go_enter Try.func19, Try.ntmps19
  go_wp2_with fail
  refine (CR.out _ ((Up.refl _).alloc _)).mono ?_
  rintro x w1 ⟨z, rfl, hz, u1⟩
  have U1 := Lib.hid (((Up.refl w).alloc _).trans u1)
  have x0 := B0.out.up u1
  obtain ⟨p0, p1, p2⟩ := And.intro x0.c0 (And.intro x0.c1 x0.c2)
  clear u1 x0
  rcases hz with rfl | ⟨z0, z1, ⟨hp, hn⟩⟩
  · go_wp2
    go_ret
    exact ⟨-1, rfl, .inl rfl, U1.out⟩
  · have HP := Lib.hid hp
    have j3 : ¬ z < 0 := by omega
    clear hp
    by_cases h : z < k
    · have C2 := Lib.hid (fun W => if_pos h ▸ CE.out z W z0 (by omega))
      have j1 : (-1 : Int) < 0 := by omega
      go_wp2_with fail
      refine (C2.out _).mono ?_
      rintro x w2 ⟨rfl, rfl⟩
      go_wp2
      go_ret
      exact ⟨-1, rfl, .inl rfl, U1.out⟩
    · have C2 := Lib.hid (fun W => if_neg h ▸ CE.out z W z0 (by omega))
      have j1 : ¬ z - (k : Int) < 0 := by omega
      go_wp2_with fail
      refine (C2.out _).mono ?_
      rintro x w2 ⟨rfl, rfl⟩
      go_wp2
      go_ret
      exact ⟨z - k, rfl, .inr ⟨by omega, by omega, ⟨⟨fun i hi => (HP.out i hi).2, by rw [LE.out]; omega⟩, hn, HP.out⟩⟩, U1.out⟩

end Go.Proofs.Ytojnphchkdjafaa

/-
  What impl.HstOk says of a host that has done nothing, in one sentence: it is one, where the model and the component are; for every such host that lies in memory.
-/
import Derived.Test.YtkfjemgelmbcfaaKHsOk0
import Derived.Test.YtkfjemgelmbcfaaKHsDef
import Derived.Test.YtkfjemgelmbcfaaKA
namespace Go.Proofs.Ytkfjemgelmbcfaa
set_option maxRecDepth 100000
open Go.RowKit

theorem rise_pw : ∀ l : List Evt, riseB l = true → l.Pairwise (fun a b => ltE a b = true)
  | [], _ => List.Pairwise.nil
  | [a], _ => List.Pairwise.cons (fun _ h => absurd h (by simp)) List.Pairwise.nil
  | a :: b :: r, h => by
    rw [riseB, Bool.and_eq_true] at h
    have ih := rise_pw (b :: r) h.2
    refine List.Pairwise.cons (fun x hx => ?_) ih
    rcases List.mem_cons.1 hx with rfl | hx
    · exact h.1
    · exact ltE_trans _ _ _ h.1 ((List.pairwise_cons.1 ih).1 x hx)
theorem riseT_pw : ∀ l : List Rec, l.Pairwise (fun a b => ltR a b = true) → riseT l = true
  | [], _ => rfl
  | [_], _ => rfl
  | a :: b :: r, h => by
    have h2 := List.pairwise_cons.1 h
    rw [riseT, Bool.and_eq_true]
    exact ⟨h2.1 b (by simp), riseT_pw (b :: r) h2.2⟩
theorem ltR_ev {a b : Evt} (h : ltE a b = true) : ltR ⟨a, 0⟩ ⟨b, 0⟩ = true := by
  unfold ltR Rec.itm
  rw [ltT_eq, h]
  rfl
theorem hs0_rise {m : Mdl} {comp : Int} (hm : mdlB m = true) : riseT (hs0 m comp) = true := by
  rw [hs0_in hm]
  have hm' := hm
  simp only [mdlB, startsB, Bool.and_eq_true] at hm'
  obtain ⟨⟨⟨_, _⟩, ⟨⟨_, hr⟩, _⟩⟩, _⟩ := hm'
  apply riseT_pw
  unfold wtk
  rw [List.pairwise_map]
  rw [List.take_of_length_le (Nat.le_refl _)]
  exact ((rise_pw _ hr).filter _).imp (fun h => ltR_ev h)
theorem hs0_all {m : Mdl} {comp : Int} (hm : mdlB m = true) : (hs0 m comp).all (itemForB m.rules.length m.til comp) = true := by
  rw [hs0_in hm]
  have hm' := hm
  simp only [mdlB, startsB, Bool.and_eq_true] at hm'
  obtain ⟨⟨⟨_, _⟩, ⟨⟨_, _⟩, hs⟩⟩, _⟩ := hm'
  refine List.all_eq_true.2 fun x hx => ?_
  unfold wtk at hx
  rw [List.take_of_length_le (Nat.le_refl _)] at hx
  obtain ⟨e, he, rfl⟩ := List.mem_map.1 hx
  obtain ⟨he, hc⟩ := List.mem_filter.1 he
  have := List.all_eq_true.1 hs e he
  unfold startB at this
  simp only [Bool.and_eq_true] at this
  unfold itemForB itemB takB
  dsimp only
  rw [this.2, this.1.2, hc]
  simp [inB]

set_option maxHeartbeats 4000000 in
theorem implHsOk_no (A : Option Addr) (n c : Nat) (B : Option Addr) (k d : Nat) (m : Mdl) (comp : Int) (Aw : Option Addr) (nw cw : Nat) (w : World) (hM : MdlV w A n B k m) (hm : mdlB m = true) (hc : inB comp 0 ((n : Int) - 1) = true) (hn : nw ≤ 1048576) (hE : Recs w Aw nw (hs0 m comp)) :
    Calls Try.prog 56 #[.agg #[.slice A n c, .slice B k d, .int .i64 m.til], .int .i64 comp, .agg #[.int .i64 0, .int .i64 0, .int .i64 0, .int .i64 0, .slice none 0 0, .slice Aw nw cw, .slice none 0 0, .slice none 0 0]] w fun x w' => x = .returned (.bool true) ∧ Up w w' := by
  have few := mdlB_few hm
  rw [← hM.rules.1] at hc
  have CH := Lib.hid (fun bm W (u : Up w W) => hosts_no (some bm) m.rules.length m.til comp Aw nw cw (hs0 m comp) W hn (hE.up u) hc ⟨by omega, by omega⟩ (hs0_rise hm) (hs0_all hm))
  have CN := Lib.hid (fun W (u : Up w W) => newMachine_any A n c B k d m W (hM.up u))
  have HM := Lib.hid hm
  have X2 := Lib.hid (Blk.new (w.alloc (.cells #[.slice A n c, .slice B k d, .int .i64 m.til] 26)) #[.int .i64 0, .int .i64 0, .int .i64 0, .int .i64 0, .slice none 0 0, .slice Aw nw cw, .slice none 0 0, .slice none 0 0] 90)
  simp only [World.size_alloc] at X2
  have U := Lib.hid (((Up.refl w).alloc (.cells #[.slice A n c, .slice B k d, .int .i64 m.til] 26)).alloc (.cells #[.int .i64 0, .int .i64 0, .int .i64 0, .int .i64 0, .slice none 0 0, .slice Aw nw cw, .slice none 0 0, .slice none 0 0] 90))
  clear hm hc hE few
  go_enter Try.func56, Try.ntmps56
  go_wp2_with fail
  refine (CN.out _ U.out).mono ?_
  rintro x w1 ⟨u1, h | ⟨_, bm, rfl, hb, _⟩⟩
  · have := h.1
    rw [HM.out] at this
    cases this
  · generalize (m.rules.length : Int) = many at *
    have U1 := Lib.hid ((U.out.trans u1).alloc (.cells #[.map (some bm), .int .i64 many, .int .i64 m.til] 119))
    have X2 := Lib.hid ((X2.out.up u1).alloc (.cells #[.map (some bm), .int .i64 many, .int .i64 m.til] 119))
    have z0 := X2.out.cell (j := 0) rfl
    have z1 := X2.out.cell (j := 1) rfl
    have z2 := X2.out.cell (j := 2) rfl
    have z3 := X2.out.cell (j := 3) rfl
    have z4 := X2.out.cell (j := 4) rfl
    have z5 := X2.out.cell (j := 5) rfl
    have z6 := X2.out.cell (j := 6) rfl
    have z7 := X2.out.cell (j := 7) rfl
    have lz := X2.out.lt
    clear u1
    go_wp2_with fail
    refine (CH.out bm _ U1.out).mono ?_
    rintro x w2 ⟨rfl, u2⟩
    have U2 := Lib.hid (U1.out.trans u2)
    clear u2
    go_wp2
    go_ret
    exact ⟨rfl, U2.out⟩

end Go.Proofs.Ytkfjemgelmbcfaa

/-
  What swapRange and rotate do with a row, in one sentence: two stretches change places; for all that lie in it.
-/
import Derived.Test.YtkfjemgelmbcfaaKArr
import Derived.Test.YtkfjemgelmbcfaaKA
import Derived.RegionTactic
namespace Go.Proofs.Ytkfjemgelmbcfaa
set_option maxRecDepth 100000
open Go.RowKit

/-- Two stretches of n, at a and at b, change places. -/
def swpR (f : Nat → Evt) (a b n : Nat) : Nat → Evt := fun k => if a ≤ k ∧ k < a + n then f (k - a + b) else if b ≤ k ∧ k < b + n then f (k - b + a) else f k
theorem swpR_zero (f : Nat → Evt) (a b k : Nat) : swpR f a b 0 k = f k := by
  unfold swpR
  rw [if_neg (by omega), if_neg (by omega)]
theorem swpR_step (f : Nat → Evt) (a b n : Nat) (h : a + n + 1 ≤ b) (k : Nat) : swp (swpR f a b n) (a + n) (b + n) k = swpR f a b (n + 1) k := by
  unfold swp
  by_cases h1 : k = a + n
  · subst h1
    rw [if_pos rfl]
    unfold swpR
    rw [if_neg (by omega), if_neg (by omega), if_pos (by omega)]
    congr 1
    omega
  · rw [if_neg h1]
    by_cases h2 : k = b + n
    · subst h2
      rw [if_pos rfl]
      unfold swpR
      rw [if_neg (by omega), if_neg (by omega), if_neg (by omega), if_pos (by omega)]
      congr 1
      omega
    · rw [if_neg h2]
      unfold swpR
      by_cases h3 : a ≤ k ∧ k < a + n
      · rw [if_pos h3, if_pos (by omega)]
      · rw [if_neg h3]
        have h5 : ¬ (a ≤ k ∧ k < a + (n + 1)) := by omega
        by_cases h4 : b ≤ k ∧ k < b + n
        · rw [if_pos h4, if_neg h5, if_pos (by omega)]
        · rw [if_neg h4, if_neg h5, if_neg (by omega)]
theorem Arr.as_ {f f' f'' : Nat → Evt} {a b N : Nat} (h : Arr f f' a b N) (e : ∀ k, f' k = f'' k) : Arr f f'' a b N := by
  have : f' = f'' := funext e
  exact this ▸ h
theorem swpR_arr (f : Nat → Evt) {a b lo hi N : Nat} (hlo : lo ≤ a) (hN : hi ≤ N) : ∀ n, a + n ≤ b → b + n ≤ hi → Arr f (swpR f a b n) lo hi N
  | 0, _, _ => (Arr.refl f lo hi N).as_ fun k => (swpR_zero f a b k).symm
  | n + 1, h1, h2 => ((swpR_arr f hlo hN n (by omega) (by omega)).trans (swp_arr (swpR f a b n) (i := a + n) (j := b + n) (by omega) (by omega) (by omega) (by omega))).as_ (swpR_step f a b n (by omega))

set_option maxRecDepth 100000 in
set_option maxHeartbeats 4000000 in
theorem swapRange_any (g N c a b n : Nat) (f : Nat → Evt) (C : Value) (w : World) (hN : N ≤ 2000000) (hab : a + n ≤ b) (hb : b + n ≤ N) (hR : Row w g N f) :
    Calls Try.prog 174 #[.slice (some ⟨g, 0, none⟩) N c, .int .i64 (a : Int), .int .i64 (b : Int), .int .i64 (n : Int), C] w
      fun x w' => x = .returned (.tuple #[]) ∧ Row w' g N (swpR f a b n) ∧ Mv g w w' := by
  have HR := Lib.hid (hR.as_ fun i _ => (swpR_zero f a b i).symm)
  clear hR
  go_enter Try.func174, Try.ntmps174
  go_wp2
  go_loopw [10] (fun v wr => (∃ i : Nat, v = .int .i64 (i : Int) ∧ i ≤ n ∧ Row wr g N (swpR f a b i)) ∧ Mv g w wr) (fun v _ => n - (intOf v).toNat)
  case atStart => exact ⟨⟨0, by first | rfl | go_num, by omega, HR.out⟩, Mv.refl _ _⟩
  case round =>
    obtain ⟨⟨i, rfl, hi, hF⟩, mv⟩ := hrel
    have HW := Lib.hid hF
    have MV := Lib.hid mv
    have hg := hF.1
    clear hF mv HR
    by_cases hlt : i < n
    · have j1 : (i : Int) < (n : Int) := by omega
      have ST := Lib.hid (fun k => swpR_step f a b i (by omega) k)
      generalize swpR f a b i = F at HW ST
      obtain ⟨p, hp⟩ : ∃ p, p = a + i := ⟨_, rfl⟩
      obtain ⟨q, hq⟩ : ∃ q, q = b + i := ⟨_, rfl⟩
      have HP := Lib.hid hp
      have HQ := Lib.hid hq
      have hpN : p < N := by omega
      have hqN : q < N := by omega
      have w1 : IntKind.i64.wrap ((a : Int) + (i : Int)) = (p : Int) := by rw [IntWalk.i64_in _ (by omega)]; omega
      have w2 : IntKind.i64.wrap ((b : Int) + (i : Int)) = (q : Int) := by rw [IntWalk.i64_in _ (by omega)]; omega
      have e1 := HW.out.2.1 p hpN
      have e0 := HW.out.2.1 q hqN
      generalize hx : F p = x at e1
      generalize hy : F q = y at e0
      have HX := Lib.hid hx
      have HY := Lib.hid hy
      have AA := Lib.hid ((HW.out.put (k := p) (e := y) hpN).put (k := q) (e := x) hqN)
      have hpq : p ≠ q := by omega
      clear hx hy hp hq
      obtain ⟨xt, xto, xfr, xsq, xkd, xdt⟩ := x
      obtain ⟨yt, yto, yfr, ysq, ykd, ydt⟩ := y
      unfold EvAt at e1 e0
      dsimp only at e1 e0
      obtain ⟨p0, p1, p2, p3, p4, p5⟩ := e1
      obtain ⟨q0, q1, q2, q3, q4, q5⟩ := e0
      have f0 := HW.out.2.2 (p * 6) (by omega)
      have f1 := HW.out.2.2 (p * 6 + 1) (by omega)
      have f2 := HW.out.2.2 (p * 6 + 2) (by omega)
      have f3 := HW.out.2.2 (p * 6 + 3) (by omega)
      have f4 := HW.out.2.2 (p * 6 + 4) (by omega)
      have f5 := HW.out.2.2 (p * 6 + 5) (by omega)
      have g0 := HW.out.2.2 (q * 6) (by omega)
      have g1 := HW.out.2.2 (q * 6 + 1) (by omega)
      have g2 := HW.out.2.2 (q * 6 + 2) (by omega)
      have g3 := HW.out.2.2 (q * 6 + 3) (by omega)
      have g4 := HW.out.2.2 (q * 6 + 4) (by omega)
      have g5 := HW.out.2.2 (q * 6 + 5) (by omega)
      have l3 : (p : Int) < N := by omega
      have l6 : (q : Int) < N := by omega
      go_wp2_with fail
      go_region
      have A2 := (AA.out.up (Up.refl _).drew)
      unfold putEv at A2
      have A3 := Lib.hid A2
      clear A2 AA p0 p1 p2 p3 p4 p5 q0 q1 q2 q3 q4 q5 f0 f1 f2 f3 f4 f5 g0 g1 g2 g3 g4 g5
      go_wp2
      go_roundw
      case rel =>
        refine ⟨⟨i + 1, by first | rfl | go_num, by omega, A3.out.as_ ?_⟩, ?_⟩
        · intro m hm
          rw [← ST.out m, ← HP.out, ← HQ.out]
          unfold swp
          rw [HX.out, HY.out]
          by_cases h1 : m = p
          · rw [if_pos h1, if_neg (by omega), if_pos h1]
          · by_cases h2 : m = q
            · rw [if_pos h2, if_neg h1, if_pos h2]
            · rw [if_neg h2, if_neg h1, if_neg h1, if_neg h2]
        · exact ((((((((((((MV.out.setCell _).setCell _).setCell _).setCell _).setCell _).setCell _).setCell _).setCell _).setCell _).setCell _).setCell _).setCell _).drew
      case measure => (simp [intOf]; try omega)
    · obtain rfl : i = n := by omega
      have j1 : ¬ (i : Int) < (i : Int) := by omega
      go_wp2
      exact bodyPost_end (v := .tuple #[]) (results_none Try.results174 _ _ _) rfl ⟨rfl, HW.out, MV.out⟩

end Go.Proofs.Ytkfjemgelmbcfaa

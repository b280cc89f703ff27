/-
  What cmp.Compare, cmp.Or and evtCompare return, in one sentence: the sign of the first field that differs; for every two events.
-/
import Derived.Test.YtojnphchkdjafaaBase
import Derived.StillTailTactics
namespace Go.Proofs.Ytojnphchkdjafaa
set_option maxRecDepth 100000
open Go.RowKit

/-- Two numbers compared. -/
def cmpI (x y : Int) : Int := if x < y then -1 else if y < x then 1 else 0
/-- The first that is not 0. -/
def orL : List Int → Int
  | [] => 0
  | x :: r => if x = 0 then orL r else x

theorem isNaN_any (x : Int) (w : World) : Calls Try.prog 128 #[.int .i64 x] w fun e w' => e = .returned (.bool false) ∧ w = w' := by
  go_enter Try.func128, Try.ntmps128
  go_wp2
  go_ret
  exact ⟨rfl, rfl⟩

theorem cmpI_any (x y : Int) (w : World) : Calls Try.prog 119 #[.int .i64 x, .int .i64 y] w fun e w' => e = .returned (.int .i64 (cmpI x y)) ∧ w = w' := by
  by_cases h1 : x < y
  · -- less
    have hf := Lib.hid (show cmpI x y = -1 from by unfold cmpI; rw [if_pos h1])
    go_enter Try.func119, Try.ntmps119
    go_wp2_with (go_at_call 128; refine (isNaN_any _ _).mono ?_; rintro e w' ⟨rfl, rfl⟩)
    go_ret
    exact ⟨ret_int hf.out.symm, rfl⟩
  · by_cases h2 : y < x
    · -- greater
      have hf := Lib.hid (show cmpI x y = 1 from by unfold cmpI; rw [if_neg h1, if_pos h2])
      go_enter Try.func119, Try.ntmps119
      go_wp2_with (go_at_call 128; refine (isNaN_any _ _).mono ?_; rintro e w' ⟨rfl, rfl⟩)
      go_ret
      exact ⟨ret_int hf.out.symm, rfl⟩
    · -- equal
      have hf := Lib.hid (show cmpI x y = 0 from by unfold cmpI; rw [if_neg h1, if_neg h2])
      go_enter Try.func119, Try.ntmps119
      go_wp2_with (go_at_call 128; refine (isNaN_any _ _).mono ?_; rintro e w' ⟨rfl, rfl⟩)
      go_ret
      exact ⟨ret_int hf.out.symm, rfl⟩

theorem orL_drop (zs : List Int) (k : Nat) (hk : k < zs.length) : orL (zs.drop k) = if zs.getD k 0 = 0 then orL (zs.drop (k + 1)) else zs.getD k 0 := by
  rw [List.drop_eq_getElem_cons hk, orL]
  simp [hk]

theorem or_any (b off n cap : Nat) (zs : List Int) (w : World) (hn : zs.length = n) (hb : n ≤ 1000000)
    (hc : ∀ j, j < n → w.cell? ⟨b, off + j, none⟩ = some (.int .i64 (zs.getD j 0))) :
    Calls Try.prog 118 #[.slice (some ⟨b, off, none⟩) n cap] w fun e w' => e = .returned (.int .i64 (orL zs)) ∧ w = w' := by
  have HN := Lib.hid hn
  have HC := Lib.hid hc
  clear hn hc
  go_enter Try.func118, Try.ntmps118
  go_wp2
  go_loop [8, 5] (fun i _ => ∃ k : Nat, k ≤ n ∧ i = .int .i64 k ∧ orL (zs.drop k) = orL zs) (fun i _ => n - (intOf i).toNat)
  case atStart => exact ⟨0, Nat.zero_le _, rfl, rfl⟩
  case round =>
    obtain ⟨k, hk, rfl, hr⟩ := hrel
    have HR := Lib.hid hr
    clear hr
    by_cases hlt : k < n
    · have hck := HC.out k hlt
      have hd := orL_drop zs k (by rw [HN.out]; exact hlt)
      generalize zs.getD k 0 = z at hck hd
      have HD := Lib.hid hd
      clear hd
      by_cases hz : z = 0
      · have hz' : (z != 0) = false := by simp [hz]
        have HZ := Lib.hid hz
        clear hz
        go_wp2
        go_round
        case rel => exact ⟨k + 1, by omega, by go_num, by rw [← HR.out, HD.out, if_pos HZ.out]⟩
        case measure => simp [intOf]; omega
      · have hz' : (z != 0) = true := by simp [hz]
        have HZ := Lib.hid hz
        clear hz
        go_wp2
        go_ret
        exact ⟨ret_int (by rw [← HR.out, HD.out, if_neg HZ.out]), rfl⟩
    · go_wp2
      go_ret
      exact ⟨ret_int (by rw [← HR.out, List.drop_eq_nil_of_le (by rw [HN.out]; omega)]; rfl), rfl⟩

/-- What evtCompare computes. -/
def cmpE (a b : Evt) : Int := orL [cmpI a.t b.t, cmpI a.to b.to, cmpI a.fr b.fr, cmpI a.sq b.sq, cmpI a.kd b.kd, cmpI a.dt b.dt]

theorem region_tail {P : Program} {id : Nat} {Q : Exit → Act → World → Prop} {a : Act} {w : World} {l : List Oper} (n : Nat) (hm : P.follows .mixedOrders = true) (hB : Region.lexTailB .any l.toArray n = true)
    (h : wpStill P l.toArray w.drew (fun a' => wpList P l.toArray Q (l.drop n) a' w.drew) (l.take n) a) : (Code.region id l.toArray true).wp P Q a w :=
  wp_region_still_tail n hm hB h

theorem flip_same {P : Program} {f : FuncId} {args : Array Value} {w : World} {v : Value} (h : Calls P f args w fun e w' => e = .returned v ∧ w = w') : Calls P f args w fun e w' => e = .returned v ∧ w' = w :=
  h.mono fun _ _ ⟨a, b⟩ => ⟨a, b.symm⟩

set_option maxHeartbeats 1000000 in
set_option maxRecDepth 100000 in
theorem cmpE_any (a b : Evt) (w : World) : Calls Try.prog 101 #[a.v, b.v] w fun x w' => x = .returned (.int .i64 (cmpE a b)) ∧ Up w w' := by
  unfold cmpE
  obtain ⟨at_, ato, afr, asq, akd, adt⟩ := a
  obtain ⟨bt, bto, bfr, bsq, bkd, bdt⟩ := b
  unfold Evt.v
  dsimp only
  generalize h0 : cmpI at_ bt = c0
  generalize h1 : cmpI ato bto = c1
  generalize h2 : cmpI afr bfr = c2
  generalize h3 : cmpI asq bsq = c3
  generalize h4 : cmpI akd bkd = c4
  generalize h5 : cmpI adt bdt = c5
  have H0 := fun W => flip_same (h0 ▸ cmpI_any at_ bt W)
  have H1 := fun W => flip_same (h1 ▸ cmpI_any ato bto W)
  have H2 := fun W => flip_same (h2 ▸ cmpI_any afr bfr W)
  have H3 := fun W => flip_same (h3 ▸ cmpI_any asq bsq W)
  have H4 := fun W => flip_same (h4 ▸ cmpI_any akd bkd W)
  have H5 := fun W => flip_same (h5 ▸ cmpI_any adt bdt W)
  clear h0 h1 h2 h3 h4 h5
  go_enter Try.func101, Try.ntmps101
  go_wp2
  refine region_tail 30 (by kernel_rfl) (by kernel_rfl) ?_
  simp only [List.take_succ_cons, List.take_zero, List.drop_succ_cons, List.drop_zero]
  iterate 4 still_step
  still_call (H0 _)
  iterate 4 still_step
  still_call (H1 _)
  iterate 4 still_step
  still_call (H2 _)
  iterate 4 still_step
  still_call (H3 _)
  iterate 4 still_step
  still_call (H4 _)
  iterate 4 still_step
  still_call (H5 _)
  refine wpStill_nil ?_
  clear H0 H1 H2 H3 H4 H5
  go_wp2_with fail
  refine (or_any _ 0 6 6 [c0, c1, c2, c3, c4, c5] _ rfl (by omega) ?_).mono ?_
  · intro j hj
    have h6 : j = 0 ∨ j = 1 ∨ j = 2 ∨ j = 3 ∨ j = 4 ∨ j = 5 := by omega
    rcases h6 with rfl | rfl | rfl | rfl | rfl | rfl <;> simp [go_sem]
  · rintro x w' ⟨rfl, rfl⟩
    go_wp2
    go_ret
    exact ⟨rfl, ((((Up.refl _).alloc _).alloc _).alloc _).drew⟩

end Go.Proofs.Ytojnphchkdjafaa

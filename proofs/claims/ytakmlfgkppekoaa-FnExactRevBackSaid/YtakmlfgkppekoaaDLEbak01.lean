/-
  What all texts of this seat share, in one sentence: the event as six numbers, its cells, and small facts on memory; no condition is made.
  What cmp.Compare, cmp.Or and evtCompare return, in one sentence: the sign of the first field that differs; for every two events.
  What the two EvtLess return, in one sentence: whether the first field that differs is less; for every two events.
  What it means that a slice holds a list of events, in one sentence: each event's six cells lie one behind the other; nil is let in.
  The reader of a code, in one sentence: what pick, odd and open give and keep; for every code that lies in memory.
  How a law's arguments are opened, in one sentence: an event by value gives its six numbers, a slice of events its cells; no condition is made.
  How a struct of three fields that came in is opened, in one sentence: by value it gives its fields; no condition is made.
  What within, l1In and the two EvtOk return, in one sentence: the bool that the fields' bounds give; for every event and every number of components of 64 bits.
-/
import Derived.Below
import Derived.BigQuiet
import Derived.ChangeOld
import Derived.ChangeSame
import Derived.Deep.Fields
import Derived.Deep.QuietTactic
import Derived.Deep.Slices
import Derived.Laws.Bits64
import Derived.Lib.Hide
import Derived.Lib.SmallJoins
import Derived.OpenShut
import Derived.Outline
import Derived.ProofKit
import Derived.ShutString
import Derived.StillTailTactics
import Derived.Test.YtakmlfgkppekoaaChecked
import Derived.Test.YtakmlfgkppekoaaProg
import Derived.WalkKit
import Derived.WalkSmall
namespace Go.Proofs.Ytakmlfgkppekoaa
set_option maxRecDepth 100000
open Go.RowKit
/-- An event: its six numbers. -/
structure Evt where
  t : Int
  to : Int
  fr : Int
  sq : Int
  kd : Int
  dt : Int
deriving DecidableEq
instance : Inhabited Evt := ⟨⟨0, 0, 0, 0, 0, 0⟩⟩
/-- Its value. -/
def Evt.v (e : Evt) : Value := .agg #[.int .i64 e.t, .int .i64 e.to, .int .i64 e.fr, .int .i64 e.sq, .int .i64 e.kd, .int .i64 e.dt]
/-- A number of 64 bits. -/
def I64 (n : Int) : Prop := -9223372036854775808 ≤ n ∧ n ≤ 9223372036854775807
/-- All six are of 64 bits. -/
def Evt.ok (e : Evt) : Prop := I64 e.t ∧ I64 e.to ∧ I64 e.fr ∧ I64 e.sq ∧ I64 e.kd ∧ I64 e.dt
/-- lo ≤ n ≤ hi. -/
def inB (n lo hi : Int) : Bool := decide (lo ≤ n) && decide (n ≤ hi)
theorem inB_iff {n lo hi : Int} : inB n lo hi = true ↔ lo ≤ n ∧ n ≤ hi := by simp [inB]
theorem inB_no {n lo hi : Int} : inB n lo hi = false ↔ ¬ (lo ≤ n ∧ n ≤ hi) := by rw [← inB_iff]; simp
/-- w' is w with new blocks; all that was there is as it was. -/
def Up (w w' : World) : Prop := Below w.heap.size w w'
theorem Up.refl (w : World) : Up w w := Below.refl _ _
theorem Up.below {w w' : World} (h : Up w w') : Below w.heap.size w w' := h
theorem Up.size {w w' : World} (h : Up w w') : w.heap.size ≤ w'.heap.size := Below.size h
theorem Up.trans {a b c : World} (h : Up a b) (k : Up b c) : Up a c := Below.trans h (Below.mono k h.size)
theorem Up.drew {a w : World} (h : Up a w) : Up a w.drew := Below.drew h
theorem Up.drewN {a w : World} (h : Up a w) (n : Nat) : Up a (w.drewN n) := below_drewN h n
theorem Up.alloc {a w : World} (h : Up a w) (o : Obj) : Up a (w.alloc o) := Below.alloc h h.size o
theorem Up.setCell {a w : World} (h : Up a w) {p : Addr} (hp : a.heap.size ≤ p.block) (u : Value) : Up a (w.setCell p u) := Below.setCell h hp u
theorem Up.cell {w w' : World} (h : Up w w') {p : Addr} (hp : p.block < w.heap.size) : w'.cell? p = w.cell? p := Below.cell h hp
theorem Up.cells {w w' : World} (h : Up w w') : ∀ b o, b < w.heap.size → w'.cell? ⟨b, o, none⟩ = w.cell? ⟨b, o, none⟩ := fun b o hb => h.cell (p := ⟨b, o, none⟩) hb
theorem Up.frozens {w w' : World} (h : Up w w') : ∀ b o, b < w.heap.size → w'.frozen? ⟨b, o, none⟩ = w.frozen? ⟨b, o, none⟩ := fun b o hb => Below.frozen (p := ⟨b, o, none⟩) h hb
/-- What a walk lays behind a call: the old cells, the old marks, the size. -/
theorem Up.facts {w w' : World} (h : Up w w') : (∀ b o, b < w.heap.size → w'.cell? ⟨b, o, none⟩ = w.cell? ⟨b, o, none⟩) ∧ (∀ b o, b < w.heap.size → w'.frozen? ⟨b, o, none⟩ = w.frozen? ⟨b, o, none⟩) ∧ w.heap.size ≤ w'.heap.size := ⟨h.cells, h.frozens, h.size⟩
theorem ret_bool {a b : Bool} (h : a = b) : Ending.returned (.bool a) = .returned (.bool b) := by rw [h]
theorem ret_int {a b : Int} (h : a = b) : Ending.returned (.int .i64 a) = .returned (.int .i64 b) := by rw [h]
end Go.Proofs.Ytakmlfgkppekoaa

namespace Go.Proofs.Ytakmlfgkppekoaa
set_option maxRecDepth 100000
open Go.RowKit
/-- Two numbers compared. -/
def cmpI (x y : Int) : Int := if x < y then -1 else if y < x then 1 else 0
/-- The first that is not 0. -/
def orL : List Int → Int
  | [] => 0
  | x :: r => if x = 0 then orL r else x
theorem isNaN_any (x : Int) (w : World) : Calls Try.prog 149 #[.int .i64 x] w fun e w' => e = .returned (.bool false) ∧ w = w' := by
  go_enter Try.func149, Try.ntmps149
  go_wp2; go_ret
  exact ⟨rfl, rfl⟩
theorem cmpI_any (x y : Int) (w : World) : Calls Try.prog 135 #[.int .i64 x, .int .i64 y] w fun e w' => e = .returned (.int .i64 (cmpI x y)) ∧ w = w' := by
  by_cases h1 : x < y
  · -- less
    have hf := Lib.hid (show cmpI x y = -1 from by unfold cmpI; rw [if_pos h1])
    go_enter Try.func135, Try.ntmps135
    go_wp2_with (go_at_call 149; refine (isNaN_any _ _).mono ?_; rintro e w' ⟨rfl, rfl⟩)
    go_ret
    exact ⟨ret_int hf.out.symm, rfl⟩
  · by_cases h2 : y < x
    · -- greater
      have hf := Lib.hid (show cmpI x y = 1 from by unfold cmpI; rw [if_neg h1, if_pos h2])
      go_enter Try.func135, Try.ntmps135
      go_wp2_with (go_at_call 149; refine (isNaN_any _ _).mono ?_; rintro e w' ⟨rfl, rfl⟩)
      go_ret
      exact ⟨ret_int hf.out.symm, rfl⟩
    · -- equal
      have hf := Lib.hid (show cmpI x y = 0 from by unfold cmpI; rw [if_neg h1, if_neg h2])
      go_enter Try.func135, Try.ntmps135
      go_wp2_with (go_at_call 149; refine (isNaN_any _ _).mono ?_; rintro e w' ⟨rfl, rfl⟩)
      go_ret
      exact ⟨ret_int hf.out.symm, rfl⟩
theorem orL_drop (zs : List Int) (k : Nat) (hk : k < zs.length) : orL (zs.drop k) = if zs.getD k 0 = 0 then orL (zs.drop (k + 1)) else zs.getD k 0 := by
  rw [List.drop_eq_getElem_cons hk, orL]; simp [hk]
theorem or_any (b off n cap : Nat) (zs : List Int) (w : World) (hn : zs.length = n) (hb : n ≤ 1000000)
    (hc : ∀ j, j < n → w.cell? ⟨b, off + j, none⟩ = some (.int .i64 (zs.getD j 0))) :
    Calls Try.prog 134 #[.slice (some ⟨b, off, none⟩) n cap] w fun e w' => e = .returned (.int .i64 (orL zs)) ∧ w = w' := by
  have HN := Lib.hid hn
  have HC := Lib.hid hc
  clear hn hc
  go_enter Try.func134, Try.ntmps134
  go_wp2
  go_loop [8, 5] (fun i _ => ∃ k : Nat, k ≤ n ∧ i = .int .i64 k ∧ orL (zs.drop k) = orL zs) (fun i _ => n - (intOf i).toNat)
  case atStart => exact ⟨0, Nat.zero_le _, rfl, rfl⟩
  case round =>
    obtain ⟨k, hk, rfl, hr⟩ := hrel
    have HR := Lib.hid hr
    clear hr
    by_cases hlt : k < n
    · have hck := HC.out k hlt
      have hd := orL_drop zs k (by rw [HN.out]; exact hlt)
      generalize zs.getD k 0 = z at hck hd
      have HD := Lib.hid hd
      clear hd
      by_cases hz : z = 0
      · have hz' : (z != 0) = false := by simp [hz]
        have HZ := Lib.hid hz
        clear hz; go_wp2
        go_round
        case rel => exact ⟨k + 1, by omega, by go_num, by rw [← HR.out, HD.out, if_pos HZ.out]⟩
        case measure => simp [intOf]; omega
      · have hz' : (z != 0) = true := by simp [hz]
        have HZ := Lib.hid hz
        clear hz; go_wp2; go_ret
        exact ⟨ret_int (by rw [← HR.out, HD.out, if_neg HZ.out]), rfl⟩
    · go_wp2
      go_ret
      exact ⟨ret_int (by rw [← HR.out, List.drop_eq_nil_of_le (by rw [HN.out]; omega)]; rfl), rfl⟩
/-- What evtCompare computes. -/
def cmpE (a b : Evt) : Int := orL [cmpI a.t b.t, cmpI a.to b.to, cmpI a.fr b.fr, cmpI a.sq b.sq, cmpI a.kd b.kd, cmpI a.dt b.dt]
theorem region_tail {P : Program} {id : Nat} {Q : Exit → Act → World → Prop} {a : Act} {w : World} {l : List Oper} (n : Nat) (hm : P.follows .mixedOrders = true) (hB : Region.lexTailB .any l.toArray n = true)
    (h : wpStill P l.toArray w.drew (fun a' => wpList P l.toArray Q (l.drop n) a' w.drew) (l.take n) a) : (Code.region id l.toArray true).wp P Q a w :=
  wp_region_still_tail n hm hB h
theorem flip_same {P : Program} {f : FuncId} {args : Array Value} {w : World} {v : Value} (h : Calls P f args w fun e w' => e = .returned v ∧ w = w') : Calls P f args w fun e w' => e = .returned v ∧ w' = w :=
  h.mono fun _ _ ⟨a, b⟩ => ⟨a, b.symm⟩
set_option maxHeartbeats 1000000 in
set_option maxRecDepth 100000 in
theorem cmpE_any (a b : Evt) (w : World) : Calls Try.prog 102 #[a.v, b.v] w fun x w' => x = .returned (.int .i64 (cmpE a b)) ∧ Up w w' := by
  unfold cmpE; obtain ⟨at_, ato, afr, asq, akd, adt⟩ := a; obtain ⟨bt, bto, bfr, bsq, bkd, bdt⟩ := b; unfold Evt.v; dsimp only
  generalize h0 : cmpI at_ bt = c0
  generalize h1 : cmpI ato bto = c1
  generalize h2 : cmpI afr bfr = c2
  generalize h3 : cmpI asq bsq = c3
  generalize h4 : cmpI akd bkd = c4
  generalize h5 : cmpI adt bdt = c5
  have H0 := fun W => flip_same (h0 ▸ cmpI_any at_ bt W)
  have H1 := fun W => flip_same (h1 ▸ cmpI_any ato bto W)
  have H2 := fun W => flip_same (h2 ▸ cmpI_any afr bfr W)
  have H3 := fun W => flip_same (h3 ▸ cmpI_any asq bsq W)
  have H4 := fun W => flip_same (h4 ▸ cmpI_any akd bkd W)
  have H5 := fun W => flip_same (h5 ▸ cmpI_any adt bdt W)
  clear h0 h1 h2 h3 h4 h5
  go_enter Try.func102, Try.ntmps102
  go_wp2; refine region_tail 30 (by kernel_rfl) (by kernel_rfl) ?_; simp only [List.take_succ_cons, List.take_zero, List.drop_succ_cons, List.drop_zero]
  iterate 4 still_step
  still_call (H0 _)
  iterate 4 still_step
  still_call (H1 _)
  iterate 4 still_step
  still_call (H2 _)
  iterate 4 still_step
  still_call (H3 _)
  iterate 4 still_step
  still_call (H4 _)
  iterate 4 still_step
  still_call (H5 _)
  refine wpStill_nil ?_; clear H0 H1 H2 H3 H4 H5
  go_wp2_with fail
  refine (or_any _ 0 6 6 [c0, c1, c2, c3, c4, c5] _ rfl (by omega) ?_).mono ?_
  · intro j hj
    have h6 : j = 0 ∨ j = 1 ∨ j = 2 ∨ j = 3 ∨ j = 4 ∨ j = 5 := by omega
    rcases h6 with rfl | rfl | rfl | rfl | rfl | rfl <;> simp [go_sem]
  · rintro x w' ⟨rfl, rfl⟩
    go_wp2; go_ret
    exact ⟨rfl, ((((Up.refl _).alloc _).alloc _).alloc _).drew⟩
end Go.Proofs.Ytakmlfgkppekoaa

namespace Go.Proofs.Ytakmlfgkppekoaa
set_option maxRecDepth 100000
open Go.RowKit
/-- Is the first field that differs less? -/
def ltE (a b : Evt) : Bool := decide (cmpE a b < 0)
/-- The six numbers as a list. -/
def Evt.l (e : Evt) : List Int := [e.t, e.to, e.fr, e.sq, e.kd, e.dt]
/-- A new slice of these numbers. -/
def NewInts (zs : List Int) (w : World) (x : Ending) (w' : World) : Prop :=
  ∃ g, x = .returned (.slice (some ⟨g, 0, none⟩) zs.length zs.length) ∧ w.heap.size ≤ g ∧ g < w'.heap.size ∧ (∀ j, j < zs.length → w'.cell? ⟨g, j, none⟩ = some (.int .i64 (zs.getD j 0))) ∧ Up w w'
theorem l1List_any (e : Evt) (w : World) : Calls Try.prog 143 #[e.v] w (NewInts e.l w) := by
  obtain ⟨et, eto, efr, esq, ekd, edt⟩ := e; unfold Evt.v Evt.l; dsimp only
  go_enter Try.func143, Try.ntmps143
  go_wp2; go_ret; refine ⟨w.heap.size + 1, rfl, by omega, by simp, ?_, ((Up.refl _).alloc _).alloc _⟩; intro j hj
  have h6 : j = 0 ∨ j = 1 ∨ j = 2 ∨ j = 3 ∨ j = 4 ∨ j = 5 := by simp at hj; omega
  rcases h6 with rfl | rfl | rfl | rfl | rfl | rfl <;> simp [go_sem]
theorem cmpI_lt {x y : Int} : cmpI x y < 0 ↔ x < y := by unfold cmpI; split <;> (try split) <;> omega
theorem cmpI_eq {x y : Int} : cmpI x y = 0 ↔ x = y := by unfold cmpI; split <;> (try split) <;> omega
/-- The signs of the fields. -/
def sgs (a b : Evt) : List Int := [cmpI a.t b.t, cmpI a.to b.to, cmpI a.fr b.fr, cmpI a.sq b.sq, cmpI a.kd b.kd, cmpI a.dt b.dt]
theorem sgs_getD (a b : Evt) (k : Nat) (hk : k < 6) : (sgs a b).getD k 0 = cmpI (a.l.getD k 0) (b.l.getD k 0) := by
  have h6 : k = 0 ∨ k = 1 ∨ k = 2 ∨ k = 3 ∨ k = 4 ∨ k = 5 := by omega
  rcases h6 with rfl | rfl | rfl | rfl | rfl | rfl <;> rfl
theorem less_step (a b : Evt) (k : Nat) (hk : k < 6) (hr : orL ((sgs a b).drop k) = cmpE a b) (he : a.l.getD k 0 = b.l.getD k 0) : orL ((sgs a b).drop (k + 1)) = cmpE a b := by
  rw [← hr, orL_drop _ k (by simpa [sgs] using hk), sgs_getD _ _ _ hk, if_pos (cmpI_eq.2 he)]
theorem less_here (a b : Evt) (k : Nat) (hk : k < 6) (hr : orL ((sgs a b).drop k) = cmpE a b) (he : ¬ a.l.getD k 0 = b.l.getD k 0) : decide (a.l.getD k 0 < b.l.getD k 0) = ltE a b := by
  unfold ltE; rw [← hr, orL_drop _ k (by simpa [sgs] using hk), sgs_getD _ _ _ hk, if_neg (fun h => he (cmpI_eq.1 h))]; simp [cmpI_lt]
theorem less_end (a b : Evt) (k : Nat) (hk : 6 ≤ k) (hr : orL ((sgs a b).drop k) = cmpE a b) : false = ltE a b := by
  unfold ltE; rw [← hr, List.drop_eq_nil_of_le (by simpa [sgs] using hk)]
  rfl
theorem specLess_any (a b : Evt) (w : World) : Calls Try.prog 118 #[a.v, b.v] w fun x w' => x = .returned (.bool (ltE a b)) ∧ Up w w' := by
  have ca := fun W => l1List_any a W
  have cb := fun W => l1List_any b W
  have st := less_step a b
  have he := less_here a b
  have en := less_end a b
  have h0 : orL ((sgs a b).drop 0) = cmpE a b := rfl
  have la : a.l.length = 6 := rfl
  have lb : b.l.length = 6 := rfl
  generalize ltE a b = r at he en ⊢
  generalize sgs a b = zs at st he en h0
  generalize cmpE a b = c at st he en h0
  generalize hxa : a.l = xa at ca st he la
  generalize hxb : b.l = xb at cb st he lb
  clear hxa hxb; obtain ⟨at_, ato, afr, asq, akd, adt⟩ := a; obtain ⟨bt, bto, bfr, bsq, bkd, bdt⟩ := b; unfold Evt.v at ca cb ⊢; dsimp only at ca cb ⊢
  have CA := Lib.hid ca
  have CB := Lib.hid cb
  have ST := Lib.hid st
  have HE := Lib.hid he
  have EN := Lib.hid en
  have H0 := Lib.hid h0
  have LA := Lib.hid la
  have LB := Lib.hid lb
  clear ca cb st he en h0 la lb
  go_enter Try.func118, Try.ntmps118
  go_wp2_with fail
  refine (CA.out _).mono ?_; rintro x w1 ⟨ga, rfl, ga1, ga2, hca, u1⟩; rw [LA.out] at hca ⊢
  have HCA := Lib.hid hca
  clear hca; obtain ⟨hc, hf, hz⟩ := u1.facts; simp at hz ga1
  go_wp2_with fail
  refine (CB.out _).mono ?_; rintro x w2 ⟨gb, rfl, gb1, gb2, hcb, u2⟩; rw [LB.out] at hcb ⊢
  have HCB := Lib.hid hcb
  clear hcb; clear hc hf
  have u := ((((Up.refl _).alloc _).alloc _).trans u1).trans u2
  have hcA : ∀ j, j < 6 → w2.cell? ⟨ga, j, none⟩ = some (.int .i64 (xa.getD j 0)) := fun j hj => (u2.cells ga j ga2).trans (HCA.out j hj)
  have HCA2 := Lib.hid hcA
  clear hcA
  have ga3 : ga < w2.heap.size := by have := u2.size; omega
  go_wp2
  go_loopw [7] (fun i wr => (∃ k : Nat, k ≤ 6 ∧ i = .int .i64 k ∧ orL (zs.drop k) = c) ∧ Up w2 wr) (fun i _ => 6 - (intOf i).toNat)
  case atStart => exact ⟨⟨0, by omega, rfl, H0.out⟩, Up.refl _⟩
  case round =>
    obtain ⟨⟨k, hk, rfl, hr⟩, ur⟩ := hrel
    have HR := Lib.hid hr
    clear hr
    by_cases hlt : k < 6
    · have hk1 := (ur.cells ga k ga3).trans (HCA2.out k hlt)
      have hk2 := (ur.cells gb k gb2).trans (HCB.out k hlt)
      have S := ST.out k hlt HR.out
      have E := HE.out k hlt HR.out
      generalize xa.getD k 0 = p at hk1 S E
      generalize xb.getD k 0 = q at hk2 S E
      have S' := Lib.hid S
      have E' := Lib.hid E
      clear S E
      by_cases hpq : p = q
      · have hne : (p != q) = false := by simp [hpq]
        have HP := Lib.hid hpq
        clear hpq; go_wp2
        go_quiet (fail)
        go_wp2
        go_roundw
        case rel => exact ⟨⟨k + 1, by omega, by go_num, S'.out HP.out⟩, ur.drewN _⟩
        case measure => simp [intOf]; omega
      · have hne : (p != q) = true := by simp [hpq]
        have HP := Lib.hid hpq
        clear hpq; go_wp2
        go_quiet (fail)
        go_wp2
        go_quiet (fail)
        go_wp2; go_ret
        exact ⟨ret_bool (E'.out HP.out), ((u.trans ur).drewN _).drewN _⟩
    · go_wp2
      go_ret
      exact ⟨ret_bool (EN.out k (by omega) HR.out), u.trans ur⟩
end Go.Proofs.Ytakmlfgkppekoaa

namespace Go.Proofs.Ytakmlfgkppekoaa
set_option maxRecDepth 100000
open Go.RowKit
/-- The six cells of an event, from o on. -/
def EvAt (w : World) (b o : Nat) (e : Evt) : Prop :=
  w.cell? ⟨b, o, none⟩ = some (.int .i64 e.t) ∧ w.cell? ⟨b, o + 1, none⟩ = some (.int .i64 e.to) ∧ w.cell? ⟨b, o + 2, none⟩ = some (.int .i64 e.fr) ∧
  w.cell? ⟨b, o + 3, none⟩ = some (.int .i64 e.sq) ∧ w.cell? ⟨b, o + 4, none⟩ = some (.int .i64 e.kd) ∧ w.cell? ⟨b, o + 5, none⟩ = some (.int .i64 e.dt)
/-- The slice at A of n elements holds the list. -/
def Evs (w : World) (A : Option Addr) (n : Nat) (es : List Evt) : Prop :=
  es.length = n ∧ (0 < n → ∃ b off, A = some ⟨b, off, none⟩ ∧ b < w.heap.size ∧ ∀ i, i < n → EvAt w b (off + i * 6) (es.getD i default))
theorem EvAt.up {w w' : World} {b o : Nat} {e : Evt} (h : EvAt w b o e) (u : Up w w') (hb : b < w.heap.size) : EvAt w' b o e := by
  obtain ⟨h0, h1, h2, h3, h4, h5⟩ := h
  exact ⟨(u.cells _ _ hb).trans h0, (u.cells _ _ hb).trans h1, (u.cells _ _ hb).trans h2, (u.cells _ _ hb).trans h3, (u.cells _ _ hb).trans h4, (u.cells _ _ hb).trans h5⟩
theorem Evs.up {w w' : World} {A : Option Addr} {n : Nat} {es : List Evt} (h : Evs w A n es) (u : Up w w') : Evs w' A n es :=
  ⟨h.1, fun hn => by
    obtain ⟨b, off, hA, hb, hc⟩ := h.2 hn
    exact ⟨b, off, hA, by have := u.size; omega, fun i hi => (hc i hi).up u hb⟩⟩
theorem Evs.none_ (w : World) : Evs w none 0 [] := ⟨rfl, fun h => absurd h (by omega)⟩
/-- Are they in order, none twice? -/
def riseB : List Evt → Bool
  | a :: b :: r => ltE a b && riseB (b :: r)
  | _ => true
theorem riseB_drop (es : List Evt) (j : Nat) (h : j + 1 < es.length) : riseB (es.drop j) = (ltE (es.getD j default) (es.getD (j + 1) default) && riseB (es.drop (j + 1))) := by
  rw [List.drop_eq_getElem_cons (show j < es.length by omega), List.drop_eq_getElem_cons h, riseB]; simp [show j < es.length by omega, h]
theorem riseB_end (es : List Evt) (j : Nat) (h : es.length ≤ j + 1) : riseB (es.drop j) = true := by
  have : (es.drop j).length ≤ 1 := by simp; omega
  match hd : es.drop j, this with
  | [], _ => rfl
  | [a], _ => rfl
end Go.Proofs.Ytakmlfgkppekoaa

namespace Go.Proofs.Ytakmlfgkppekoaa
set_option maxRecDepth 100000
open Go.RowKit
/-- The bytes of a slice that came in. -/
def Bys (w : World) (A : Option Addr) (n B : Nat) : Prop :=
  0 < n → ∃ b off, A = some ⟨b, off, none⟩ ∧ b < B ∧ ∀ i, i < n → ∃ z : Nat, z ≤ 255 ∧ w.cell? ⟨b, off + i, none⟩ = some (.int .u8 (z : Int))
/-- The reader at block g, which has picked at most N times. -/
def Rd (w : World) (g N : Nat) : Prop :=
  ∃ A n cap p, w.cell? ⟨g, 0, none⟩ = some (.slice A n cap) ∧ w.cell? ⟨g, 1, none⟩ = some (.int .i64 (p : Nat)) ∧ w.frozen? ⟨g, 1, none⟩ = false ∧ p ≤ N ∧ g < w.heap.size ∧ n ≤ 2000 ∧ Bys w A n g
/-- w' is w with new blocks, and block g may be written. -/
structure Mv (g : Nat) (w w' : World) : Prop where
  os : w'.os = w.os
  tape : w'.tape = w.tape
  output : w'.output = w.output
  size : w.heap.size ≤ w'.heap.size
  block : ∀ k, k < w.heap.size → k ≠ g → w'.heap[k]? = w.heap[k]?
theorem Up.mv {w w' : World} (h : Up w w') (g : Nat) : Mv g w w' := ⟨h.below.os, h.below.tape, h.below.output, h.size, fun k hk _ => h.below.block k hk⟩
theorem Mv.up {g : Nat} {a w w' : World} (h : Mv g w w') (k : Up a w) (hg : a.heap.size ≤ g) : Up a w' :=
  ⟨h.os.trans k.below.os, h.tape.trans k.below.tape, h.output.trans k.below.output, Nat.le_trans k.size h.size, fun j hj => (h.block j (Nat.lt_of_lt_of_le hj k.size) (by omega)).trans (k.below.block j hj)⟩
theorem Mv.cells {g : Nat} {w w' : World} (h : Mv g w w') : ∀ b o, b < w.heap.size → b ≠ g → w'.cell? ⟨b, o, none⟩ = w.cell? ⟨b, o, none⟩ := fun b o hb hne => World.cell?_of_block (w := w) (a := ⟨b, o, none⟩) (h.block b hb hne)
theorem Mv.frozens {g : Nat} {w w' : World} (h : Mv g w w') : ∀ b o, b < w.heap.size → b ≠ g → w'.frozen? ⟨b, o, none⟩ = w.frozen? ⟨b, o, none⟩ := fun b o hb hne => World.frozen?_of_block (w := w) (a := ⟨b, o, none⟩) (h.block b hb hne)
end Go.Proofs.Ytakmlfgkppekoaa

namespace Go.Proofs.Ytakmlfgkppekoaa
set_option maxRecDepth 100000
open Go.ChangeShapes Go.WideShapes Go.ChangeAt Go.RowKit Go.Joins Go.Deep
set_option linter.unusedVariables false
theorem own : ownKnob Try.prog.godebug = none := by kernel_rfl
theorem laidOut : laidOutB Try.prog = true := by kernel_rfl
section
variable {H : Type} {enc : TypeId × Value → H} {P : Program} {w : World} {base : Nat} {spare : Nat → Bool} {held : Bool}
theorem open_slice_fields {t e : TypeId} {fs : Array Field} {fuel : Nat} {cs : List Value} {x : DataW H × List MemPlace} (ht : P.underlying t = some (.slice e)) (he : P.underlying e = some (.struct fs))
    (hone : oneCellFields P fs = true) (hC : P.cellsOf e = fs.size) (h : DataW.trod enc P w base spare held fuel t cs = some x) :
    (cs = [.slice none 0 0] ∧ x = (.nil, [])) ∨
    ∃ (a : Addr) (len cap m : Nat) (D : Nat → DataW H) (Pl : Nat → List MemPlace), cs = [.slice (some a) len cap] ∧ base ≤ a.block ∧ len ≤ cap ∧ cap ≤ maxLen ∧ m = (if spare a.block then cap else len) ∧
      x = (.slice ((List.range len).map D) ((List.range (m - len)).map fun j => D (len + j)), MemPlace.row a (m * fs.size) ++ (List.range m).flatMap Pl) ∧
      ∀ i, i < m → ∃ (ys : List (DataW H × List MemPlace)) (n : Nat), D i = .agg (ys.map (·.1)) ∧ Pl i = ys.flatMap (·.2) ∧ ys.length = fs.size ∧
        ∀ (j : Nat) (f : Field), fs[j]? = some f → ∃ (v : Value) (y : DataW H × List MemPlace), w.cell? (a.add (i * fs.size + j)) = some v ∧ ys[j]? = some y ∧ DataW.trod enc P w base spare held n f.type [v] = some y := by
  rcases open_slice ht h with h0 | ⟨a, len, cap, m, n, D, Pl, hcs, hb, hl, hm, hmm, hx, hi⟩
  · exact .inl h0
  · refine .inr ⟨a, len, cap, m, D, Pl, hcs, hb, hl, hm, hmm, by rw [hC] at hx; exact hx, fun i him => ?_⟩
    obtain ⟨cs', hc, ht'⟩ := hi i him; rw [hC] at hc; obtain ⟨ys, n', hn', hy, hlen, hyl, hf⟩ := DataW.trod_struct he ht'; obtain ⟨_, hcl, hat⟩ := World.cells?_some hc; simp only [Prod.mk.injEq] at hy; refine ⟨ys, n', hy.1, hy.2, hyl, fun j f hj => ?_⟩; obtain ⟨ho, hk⟩ := hone_of hone j f hj
    have hjl : j < fs.size := (Array.getElem?_eq_some_iff.1 hj).1
    have hcell := hat j hjl
    have hv : cs'[j]? = some (cs'[j]'(by omega)) := List.getElem?_eq_getElem (by omega)
    have h1 := hf j f hj
    rw [ho, hk] at h1
    have hone' : (cs'.drop j).take 1 = [cs'[j]'(by omega)] := by
      rw [List.drop_eq_getElem_cons (by omega)]
      rfl
    rw [hone'] at h1
    have hys : ys[j]? = some (ys[j]'(by omega)) := List.getElem?_eq_getElem (by omega)
    refine ⟨_, _, ?_, hys, h1.trans hys⟩; rw [← Go.Deep.add_add, hcell, hv]
end
theorem i64_of_wf {n : Int} (h : (Lit.int .i64 n).wf = true) : I64 n := by
  simpa [I64, Lit.wf, IntKind.min, IntKind.max, IntKind.signed, IntKind.bits] using h
theorem cells40 : Try.prog.cellsOf 40 = 6 := by kernel_rfl
theorem list_of {α : Type} [Inhabited α] {R : Nat → α → Prop} : ∀ n, (∀ i, i < n → ∃ x, R i x) → ∃ l : List α, l.length = n ∧ ∀ i, i < n → R i (l.getD i default)
  | 0, _ => ⟨[], rfl, fun i h => absurd h (by omega)⟩
  | n + 1, h => by
    obtain ⟨l, hl, hr⟩ := list_of n fun i hi => h i (by omega)
    obtain ⟨x, hx⟩ := h n (by omega); refine ⟨l ++ [x], by simp [hl], fun i hi => ?_⟩
    by_cases hin : i < n
    · have := hr i hin
      simpa [List.getElem?_append, hl, hin] using this
    · obtain rfl : i = n := by omega
      subst hl
      simpa using hx
theorem block_lt {w : World} {b o : Nat} {v : Value} (h : w.cell? ⟨b, o, none⟩ = some v) : b < w.heap.size := by
  rcases Nat.lt_or_ge b w.heap.size with hlt | hge
  · exact hlt
  · simp [World.cell?, Array.getElem?_eq_none hge] at h
theorem hone40 : ∃ fs : Array Field, Try.prog.underlying 40 = some (.struct fs) ∧ oneCellFields Try.prog fs = true ∧ fs.size = 6 ∧ fs.map (·.type) = #[3, 3, 3, 3, 3, 3] :=
  ⟨_, Try.underlying40, by kernel_rfl, rfl, by simp⟩
/-- A list of events that came in. -/
theorem open_evts {H : Type} {enc : TypeId × Value → H} {w : World} {base : Nat} {spare : Nat → Bool} {held : Bool} {A : Option Addr} {n cap : Nat} {d : DataW H} {p : List MemPlace}
    (h : DataW.Trod enc Try.prog w base spare held 25 (.slice A n cap) d p) : ∃ es : List Evt, Evs w A n es ∧ (∀ e ∈ es, e.ok) ∧ n ≤ 9223372036854775807 := by
  obtain ⟨fuel, hf⟩ := h; obtain ⟨fs, hu, hone, hsz, hty⟩ := hone40
  rcases open_slice_fields Try.underlying25 hu hone (by rw [hsz]; exact cells40) hf with ⟨hcs, _⟩ | ⟨a, len, c, m, D, Pl, hcs, _, hl, hm, hmm, _, hi⟩
  · simp [Value.cells] at hcs
    obtain ⟨rfl, rfl, rfl⟩ := hcs
    exact ⟨[], Evs.none_ w, (fun e he => by cases he), by omega⟩
  · simp [Value.cells] at hcs
    obtain ⟨rfl, rfl, rfl⟩ := hcs
    have hnm : n ≤ m := by rw [hmm]; split <;> omega
    have one : ∀ i, i < n → ∃ e : Evt, e.ok ∧ ∀ j, j < 6 → w.cell? (a.add (i * 6 + j)) = some (.int .i64 (e.l.getD j 0)) := by
      intro i hin; obtain ⟨ys, k, _, _, _, hj⟩ := hi i (by omega)
      have f : ∀ j, j < 6 → ∃ z : Int, I64 z ∧ w.cell? (a.add (i * 6 + j)) = some (.int .i64 z) := by
        intro j hj6
        have hjs : j < fs.size := by omega
        have htj : (fs[j]'hjs).type = 3 := by
          have e1 : (fs.map (·.type))[j]? = some (3) := by
            rw [hty]
            have h6 : j = 0 ∨ j = 1 ∨ j = 2 ∨ j = 3 ∨ j = 4 ∨ j = 5 := by omega
            rcases h6 with rfl | rfl | rfl | rfl | rfl | rfl <;> rfl
          simpa [hjs] using e1
        obtain ⟨v, y, hcell, _, ht⟩ := hj j (fs[j]'hjs) (Array.getElem?_eq_getElem hjs); rw [htj] at ht; obtain ⟨z, e, _, wz⟩ := DataW.trod_int Try.underlying3 ht; simp only [List.cons.injEq, and_true] at e; subst e; rw [hsz] at hcell
        exact ⟨z, i64_of_wf wz, hcell⟩
      obtain ⟨z0, w0, g0⟩ := f 0 (by omega); obtain ⟨z1, w1, g1⟩ := f 1 (by omega); obtain ⟨z2, w2, g2⟩ := f 2 (by omega); obtain ⟨z3, w3, g3⟩ := f 3 (by omega); obtain ⟨z4, w4, g4⟩ := f 4 (by omega); obtain ⟨z5, w5, g5⟩ := f 5 (by omega); refine ⟨⟨z0, z1, z2, z3, z4, z5⟩, ⟨w0, w1, w2, w3, w4, w5⟩, fun j hj6 => ?_⟩
      have h6 : j = 0 ∨ j = 1 ∨ j = 2 ∨ j = 3 ∨ j = 4 ∨ j = 5 := by omega
      rcases h6 with rfl | rfl | rfl | rfl | rfl | rfl
      · exact g0
      · exact g1
      · exact g2
      · exact g3
      · exact g4
      · exact g5
    obtain ⟨es, hlen, hes⟩ := list_of n one
    have hmax : n ≤ 9223372036854775807 := by unfold maxLen at hm; omega
    refine ⟨es, ⟨hlen, fun hn => ?_⟩, (fun e he => ?_), hmax⟩
    · obtain ⟨b, off, spot⟩ := a
      have c0 := (hes 0 hn).2 0 (by omega)
      have hspot : spot = none := by simpa [Addr.add] using World.cell?_spot c0
      subst hspot
      have c0' : w.cell? ⟨b, off, none⟩ = some (.int .i64 ((es.getD 0 default).l.getD 0 0)) := by simpa [Addr.add] using c0
      have add : ∀ k, (⟨b, off, none⟩ : Addr).add k = ⟨b, off + k, none⟩ := fun k => by
        unfold Addr.add
        split
        · rename_i h0; subst h0; rfl
        · rfl
      refine ⟨b, off, rfl, block_lt c0', fun i hin => ?_⟩
      have g := (hes i hin).2
      simp only [add] at g
      generalize es.getD i default = e at g
      obtain ⟨z0, z1, z2, z3, z4, z5⟩ := e
      exact ⟨g 0 (by omega), by have := g 1 (by omega); simpa [Nat.add_assoc, Evt.l] using this, by have := g 2 (by omega); simpa [Nat.add_assoc, Evt.l] using this, by have := g 3 (by omega); simpa [Nat.add_assoc, Evt.l] using this, by have := g 4 (by omega); simpa [Nat.add_assoc, Evt.l] using this, by have := g 5 (by omega); simpa [Nat.add_assoc, Evt.l] using this⟩
    · obtain ⟨i, hi2, rfl⟩ := List.getElem_of_mem he
      have := (hes i (by omega)).1
      simpa [hi2] using this
end Go.Proofs.Ytakmlfgkppekoaa

namespace Go.Proofs.Ytakmlfgkppekoaa
set_option maxRecDepth 100000
open Go.ChangeShapes Go.WideShapes Go.ChangeAt Go.RowKit Go.Joins Go.Deep
set_option linter.unusedVariables false
section
variable {H : Type} {enc : TypeId × Value → H} {P : Program} {w : World} {base : Nat} {spare : Nat → Bool} {held : Bool}
theorem open_agg3 {r : Reach} {b0 : Nat} {t : TypeId} {f0 f1 f2 : Field} {v : Value} {d : DataW H} {p : List MemPlace} (hs : P.underlying t = some (.struct #[f0, f1, f2])) (hone : oneCellFields P #[f0, f1, f2] = true) (hC : P.cellsOf t = 3)
    (hv : Value.okWide P w r b0 t v) (h : DataW.Trod enc P w base spare held t v d p) :
    ∃ (v0 v1 v2 : Value) (y0 y1 y2 : DataW H × List MemPlace) (n : Nat), v = .agg #[v0, v1, v2] ∧ d = .agg [y0.1, y1.1, y2.1] ∧ p = y0.2 ++ (y1.2 ++ y2.2) ∧
      DataW.trod enc P w base spare held n f0.type [v0] = some y0 ∧ DataW.trod enc P w base spare held n f1.type [v1] = some y1 ∧ DataW.trod enc P w base spare held n f2.type [v2] = some y2 := by
  obtain ⟨cs, rfl, hsz⟩ := okWide_struct hs hv; obtain ⟨l⟩ := cs
  match l, hsz.trans hC with
  | [c0, c1, c2], _ =>
    obtain ⟨fuel, hf⟩ := h; obtain ⟨xs, n, _, hx, _, hlen, hg⟩ := DataW.trod_struct hs hf; obtain ⟨o0, k0⟩ := hone_of hone 0 f0 rfl; obtain ⟨o1, k1⟩ := hone_of hone 1 f1 rfl; obtain ⟨o2, k2⟩ := hone_of hone 2 f2 rfl
    match xs, hlen with
    | [y0, y1, y2], _ =>
      simp only [Prod.mk.injEq] at hx
      exact ⟨c0, c1, c2, y0, y1, y2, n, rfl, by simpa using hx.1, by simpa using hx.2, by simpa [Value.cells, o0, k0] using hg 0 f0 rfl, by simpa [Value.cells, o1, k1] using hg 1 f1 rfl, by simpa [Value.cells, o2, k2] using hg 2 f2 rfl⟩
end
end Go.Proofs.Ytakmlfgkppekoaa

namespace Go.Proofs.Ytakmlfgkppekoaa
set_option maxRecDepth 100000
open Go.RowKit
theorem within_any (n lo hi : Int) (w : World) :
    Calls Try.prog 65 #[.int .i64 n, .int .i64 lo, .int .i64 hi] w fun e w' => e = .returned (.bool (inB n lo hi)) ∧ w = w' := by
  by_cases h1 : lo ≤ n
  · by_cases h2 : n ≤ hi
    · have hf := inB_iff.2 ⟨h1, h2⟩
      go_enter Try.func65, Try.ntmps65
      go_wp2; go_ret
      exact ⟨by first | rfl | exact ret_bool hf.symm, rfl⟩
    · have hf : inB n lo hi = false := inB_no.2 fun h => h2 h.2
      go_enter Try.func65, Try.ntmps65
      go_wp2; go_ret
      exact ⟨by first | rfl | exact ret_bool hf.symm, rfl⟩
  · have hf : inB n lo hi = false := inB_no.2 fun h => h1 h.1
    go_enter Try.func65, Try.ntmps65
    go_wp2; go_ret
    exact ⟨by first | rfl | exact ret_bool hf.symm, rfl⟩
theorem l1In_any (n lo hi : Int) (w : World) :
    Calls Try.prog 64 #[.int .i64 n, .int .i64 lo, .int .i64 hi] w fun e w' => e = .returned (.bool (inB n lo hi)) ∧ w = w' := by
  by_cases h1 : lo ≤ n
  · by_cases h2 : n ≤ hi
    · have hf := inB_iff.2 ⟨h1, h2⟩
      go_enter Try.func64, Try.ntmps64
      go_wp2; go_ret
      exact ⟨by first | rfl | exact ret_bool hf.symm, rfl⟩
    · have hf : inB n lo hi = false := inB_no.2 fun h => h2 h.2
      go_enter Try.func64, Try.ntmps64
      go_wp2; go_ret
      exact ⟨by first | rfl | exact ret_bool hf.symm, rfl⟩
  · have hf : inB n lo hi = false := inB_no.2 fun h => h1 h.1
    go_enter Try.func64, Try.ntmps64
    go_wp2; go_ret
    exact ⟨by first | rfl | exact ret_bool hf.symm, rfl⟩
/-- What both EvtOk compute. -/
def okB (e : Evt) (many : Int) : Bool :=
  inB many 1 4 && inB e.t 0 99 && inB e.to 0 (many - 1) && inB e.fr (-1) (many - 1) && inB e.sq 0 11 && inB e.kd 0 2 && inB e.dt 0 96
theorem implOk_any (e : Evt) (many : Int) (w : World) :
    Calls Try.prog 99 #[e.v, .int .i64 many] w fun x w' => x = .returned (.bool (okB e many)) ∧ Up w w' := by
  unfold okB; obtain ⟨et, eto, efr, esq, ekd, edt⟩ := e; unfold Evt.v; dsimp only
  by_cases hm : 1 ≤ many ∧ many ≤ 4
  · have hin : inB many 1 4 = true := inB_iff.2 hm
    obtain ⟨hm1, hm2⟩ := hm
    go_enter Try.func99, Try.ntmps99
    go_wp2_with (go_at_call 65; refine (within_any _ _ _ _).mono ?_; rintro e w' ⟨rfl, rfl⟩)
    all_goals go_ret
    all_goals exact ⟨ret_bool (by simp [*]), (Up.refl _).alloc _⟩
  · have hin : inB many 1 4 = false := inB_no.2 hm
    go_enter Try.func99, Try.ntmps99
    go_wp2_with (go_at_call 65; refine (within_any _ _ _ _).mono ?_; rintro e w' ⟨rfl, rfl⟩)
    go_ret
    exact ⟨ret_bool (by simp [*]), (Up.refl _).alloc _⟩
theorem specOk_any (e : Evt) (many : Int) (w : World) :
    Calls Try.prog 40 #[e.v, .int .i64 many] w fun x w' => x = .returned (.bool (okB e many)) ∧ Up w w' := by
  unfold okB; obtain ⟨et, eto, efr, esq, ekd, edt⟩ := e; unfold Evt.v; dsimp only
  by_cases hm : 1 ≤ many ∧ many ≤ 4
  · have hin : inB many 1 4 = true := inB_iff.2 hm
    obtain ⟨hm1, hm2⟩ := hm
    go_enter Try.func40, Try.ntmps40
    go_wp2_with (go_at_call 64; refine (l1In_any _ _ _ _).mono ?_; rintro e w' ⟨rfl, rfl⟩)
    all_goals go_ret
    all_goals exact ⟨ret_bool (by simp [*]), (Up.refl _).alloc _⟩
  · have hin : inB many 1 4 = false := inB_no.2 hm
    go_enter Try.func40, Try.ntmps40
    go_wp2_with (go_at_call 64; refine (l1In_any _ _ _ _).mono ?_; rintro e w' ⟨rfl, rfl⟩)
    go_ret
    exact ⟨ret_bool (by simp [*]), (Up.refl _).alloc _⟩
end Go.Proofs.Ytakmlfgkppekoaa

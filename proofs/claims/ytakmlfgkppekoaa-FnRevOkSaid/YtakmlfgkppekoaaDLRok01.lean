/-
  What all texts of this seat share, in one sentence: the event as six numbers, its cells, and small facts on memory; no condition is made.
  What cmp.Compare, cmp.Or and evtCompare return, in one sentence: the sign of the first field that differs; for every two events.
  What the two EvtLess return, in one sentence: whether the first field that differs is less; for every two events.
  What it means that a slice holds a list of events, in one sentence: each event's six cells lie one behind the other; nil is let in.
  The reader of a code, in one sentence: what pick, odd and open give and keep; for every code that lies in memory.
  How a law's arguments are opened, in one sentence: an event by value gives its six numbers, a slice of events its cells; no condition is made.
  How a code that came in is opened, in one sentence: its bytes lie in memory; no condition is made.
  Blocks of events of the call's own, in one sentence: what the laying of an event's six cells keeps and what it gives; no condition is made.
  A region that draws its order and whose callees make new blocks, in one sentence: one walk in the order of the text serves every order, where each operation yields one value in every grown world.
-/
import Derived.Below
import Derived.BigQuiet
import Derived.ChangeOld
import Derived.ChangeSame
import Derived.Deep.Fields
import Derived.Deep.QuietTactic
import Derived.Deep.Slices
import Derived.Laws.Bits64
import Derived.Lib.Hide
import Derived.Lib.SmallJoins
import Derived.OpenShut
import Derived.Outline
import Derived.ProofKit
import Derived.ShutString
import Derived.StillTailTactics
import Derived.Test.YtakmlfgkppekoaaChecked
import Derived.Test.YtakmlfgkppekoaaProg
import Derived.WalkKit
import Derived.WalkSmall
namespace Go.Proofs.Ytakmlfgkppekoaa
set_option maxRecDepth 100000
open Go.RowKit
/-- An event: its six numbers. -/
structure Evt where
  t : Int
  to : Int
  fr : Int
  sq : Int
  kd : Int
  dt : Int
deriving DecidableEq
instance : Inhabited Evt := ⟨⟨0, 0, 0, 0, 0, 0⟩⟩
/-- Its value. -/
def Evt.v (e : Evt) : Value := .agg #[.int .i64 e.t, .int .i64 e.to, .int .i64 e.fr, .int .i64 e.sq, .int .i64 e.kd, .int .i64 e.dt]
/-- A number of 64 bits. -/
def I64 (n : Int) : Prop := -9223372036854775808 ≤ n ∧ n ≤ 9223372036854775807
/-- All six are of 64 bits. -/
def Evt.ok (e : Evt) : Prop := I64 e.t ∧ I64 e.to ∧ I64 e.fr ∧ I64 e.sq ∧ I64 e.kd ∧ I64 e.dt
/-- lo ≤ n ≤ hi. -/
def inB (n lo hi : Int) : Bool := decide (lo ≤ n) && decide (n ≤ hi)
theorem inB_iff {n lo hi : Int} : inB n lo hi = true ↔ lo ≤ n ∧ n ≤ hi := by simp [inB]
theorem inB_no {n lo hi : Int} : inB n lo hi = false ↔ ¬ (lo ≤ n ∧ n ≤ hi) := by rw [← inB_iff]; simp
/-- w' is w with new blocks; all that was there is as it was. -/
def Up (w w' : World) : Prop := Below w.heap.size w w'
theorem Up.refl (w : World) : Up w w := Below.refl _ _
theorem Up.below {w w' : World} (h : Up w w') : Below w.heap.size w w' := h
theorem Up.size {w w' : World} (h : Up w w') : w.heap.size ≤ w'.heap.size := Below.size h
theorem Up.trans {a b c : World} (h : Up a b) (k : Up b c) : Up a c := Below.trans h (Below.mono k h.size)
theorem Up.drew {a w : World} (h : Up a w) : Up a w.drew := Below.drew h
theorem Up.drewN {a w : World} (h : Up a w) (n : Nat) : Up a (w.drewN n) := below_drewN h n
theorem Up.alloc {a w : World} (h : Up a w) (o : Obj) : Up a (w.alloc o) := Below.alloc h h.size o
theorem Up.setCell {a w : World} (h : Up a w) {p : Addr} (hp : a.heap.size ≤ p.block) (u : Value) : Up a (w.setCell p u) := Below.setCell h hp u
theorem Up.cell {w w' : World} (h : Up w w') {p : Addr} (hp : p.block < w.heap.size) : w'.cell? p = w.cell? p := Below.cell h hp
theorem Up.cells {w w' : World} (h : Up w w') : ∀ b o, b < w.heap.size → w'.cell? ⟨b, o, none⟩ = w.cell? ⟨b, o, none⟩ := fun b o hb => h.cell (p := ⟨b, o, none⟩) hb
theorem Up.frozens {w w' : World} (h : Up w w') : ∀ b o, b < w.heap.size → w'.frozen? ⟨b, o, none⟩ = w.frozen? ⟨b, o, none⟩ := fun b o hb => Below.frozen (p := ⟨b, o, none⟩) h hb
/-- What a walk lays behind a call: the old cells, the old marks, the size. -/
theorem Up.facts {w w' : World} (h : Up w w') : (∀ b o, b < w.heap.size → w'.cell? ⟨b, o, none⟩ = w.cell? ⟨b, o, none⟩) ∧ (∀ b o, b < w.heap.size → w'.frozen? ⟨b, o, none⟩ = w.frozen? ⟨b, o, none⟩) ∧ w.heap.size ≤ w'.heap.size := ⟨h.cells, h.frozens, h.size⟩
theorem ret_bool {a b : Bool} (h : a = b) : Ending.returned (.bool a) = .returned (.bool b) := by rw [h]
theorem ret_int {a b : Int} (h : a = b) : Ending.returned (.int .i64 a) = .returned (.int .i64 b) := by rw [h]
end Go.Proofs.Ytakmlfgkppekoaa

namespace Go.Proofs.Ytakmlfgkppekoaa
set_option maxRecDepth 100000
open Go.RowKit
/-- Two numbers compared. -/
def cmpI (x y : Int) : Int := if x < y then -1 else if y < x then 1 else 0
/-- The first that is not 0. -/
def orL : List Int → Int
  | [] => 0
  | x :: r => if x = 0 then orL r else x
theorem isNaN_any (x : Int) (w : World) : Calls Try.prog 149 #[.int .i64 x] w fun e w' => e = .returned (.bool false) ∧ w = w' := by
  go_enter Try.func149, Try.ntmps149
  go_wp2; go_ret
  exact ⟨rfl, rfl⟩
theorem cmpI_any (x y : Int) (w : World) : Calls Try.prog 135 #[.int .i64 x, .int .i64 y] w fun e w' => e = .returned (.int .i64 (cmpI x y)) ∧ w = w' := by
  by_cases h1 : x < y
  · -- less
    have hf := Lib.hid (show cmpI x y = -1 from by unfold cmpI; rw [if_pos h1])
    go_enter Try.func135, Try.ntmps135
    go_wp2_with (go_at_call 149; refine (isNaN_any _ _).mono ?_; rintro e w' ⟨rfl, rfl⟩)
    go_ret
    exact ⟨ret_int hf.out.symm, rfl⟩
  · by_cases h2 : y < x
    · -- greater
      have hf := Lib.hid (show cmpI x y = 1 from by unfold cmpI; rw [if_neg h1, if_pos h2])
      go_enter Try.func135, Try.ntmps135
      go_wp2_with (go_at_call 149; refine (isNaN_any _ _).mono ?_; rintro e w' ⟨rfl, rfl⟩)
      go_ret
      exact ⟨ret_int hf.out.symm, rfl⟩
    · -- equal
      have hf := Lib.hid (show cmpI x y = 0 from by unfold cmpI; rw [if_neg h1, if_neg h2])
      go_enter Try.func135, Try.ntmps135
      go_wp2_with (go_at_call 149; refine (isNaN_any _ _).mono ?_; rintro e w' ⟨rfl, rfl⟩)
      go_ret
      exact ⟨ret_int hf.out.symm, rfl⟩
theorem orL_drop (zs : List Int) (k : Nat) (hk : k < zs.length) : orL (zs.drop k) = if zs.getD k 0 = 0 then orL (zs.drop (k + 1)) else zs.getD k 0 := by
  rw [List.drop_eq_getElem_cons hk, orL]; simp [hk]
theorem or_any (b off n cap : Nat) (zs : List Int) (w : World) (hn : zs.length = n) (hb : n ≤ 1000000)
    (hc : ∀ j, j < n → w.cell? ⟨b, off + j, none⟩ = some (.int .i64 (zs.getD j 0))) :
    Calls Try.prog 134 #[.slice (some ⟨b, off, none⟩) n cap] w fun e w' => e = .returned (.int .i64 (orL zs)) ∧ w = w' := by
  have HN := Lib.hid hn
  have HC := Lib.hid hc
  clear hn hc
  go_enter Try.func134, Try.ntmps134
  go_wp2
  go_loop [8, 5] (fun i _ => ∃ k : Nat, k ≤ n ∧ i = .int .i64 k ∧ orL (zs.drop k) = orL zs) (fun i _ => n - (intOf i).toNat)
  case atStart => exact ⟨0, Nat.zero_le _, rfl, rfl⟩
  case round =>
    obtain ⟨k, hk, rfl, hr⟩ := hrel
    have HR := Lib.hid hr
    clear hr
    by_cases hlt : k < n
    · have hck := HC.out k hlt
      have hd := orL_drop zs k (by rw [HN.out]; exact hlt)
      generalize zs.getD k 0 = z at hck hd
      have HD := Lib.hid hd
      clear hd
      by_cases hz : z = 0
      · have hz' : (z != 0) = false := by simp [hz]
        have HZ := Lib.hid hz
        clear hz; go_wp2
        go_round
        case rel => exact ⟨k + 1, by omega, by go_num, by rw [← HR.out, HD.out, if_pos HZ.out]⟩
        case measure => simp [intOf]; omega
      · have hz' : (z != 0) = true := by simp [hz]
        have HZ := Lib.hid hz
        clear hz; go_wp2; go_ret
        exact ⟨ret_int (by rw [← HR.out, HD.out, if_neg HZ.out]), rfl⟩
    · go_wp2
      go_ret
      exact ⟨ret_int (by rw [← HR.out, List.drop_eq_nil_of_le (by rw [HN.out]; omega)]; rfl), rfl⟩
/-- What evtCompare computes. -/
def cmpE (a b : Evt) : Int := orL [cmpI a.t b.t, cmpI a.to b.to, cmpI a.fr b.fr, cmpI a.sq b.sq, cmpI a.kd b.kd, cmpI a.dt b.dt]
theorem region_tail {P : Program} {id : Nat} {Q : Exit → Act → World → Prop} {a : Act} {w : World} {l : List Oper} (n : Nat) (hm : P.follows .mixedOrders = true) (hB : Region.lexTailB .any l.toArray n = true)
    (h : wpStill P l.toArray w.drew (fun a' => wpList P l.toArray Q (l.drop n) a' w.drew) (l.take n) a) : (Code.region id l.toArray true).wp P Q a w :=
  wp_region_still_tail n hm hB h
theorem flip_same {P : Program} {f : FuncId} {args : Array Value} {w : World} {v : Value} (h : Calls P f args w fun e w' => e = .returned v ∧ w = w') : Calls P f args w fun e w' => e = .returned v ∧ w' = w :=
  h.mono fun _ _ ⟨a, b⟩ => ⟨a, b.symm⟩
set_option maxHeartbeats 1000000 in
set_option maxRecDepth 100000 in
theorem cmpE_any (a b : Evt) (w : World) : Calls Try.prog 102 #[a.v, b.v] w fun x w' => x = .returned (.int .i64 (cmpE a b)) ∧ Up w w' := by
  unfold cmpE; obtain ⟨at_, ato, afr, asq, akd, adt⟩ := a; obtain ⟨bt, bto, bfr, bsq, bkd, bdt⟩ := b; unfold Evt.v; dsimp only
  generalize h0 : cmpI at_ bt = c0
  generalize h1 : cmpI ato bto = c1
  generalize h2 : cmpI afr bfr = c2
  generalize h3 : cmpI asq bsq = c3
  generalize h4 : cmpI akd bkd = c4
  generalize h5 : cmpI adt bdt = c5
  have H0 := fun W => flip_same (h0 ▸ cmpI_any at_ bt W)
  have H1 := fun W => flip_same (h1 ▸ cmpI_any ato bto W)
  have H2 := fun W => flip_same (h2 ▸ cmpI_any afr bfr W)
  have H3 := fun W => flip_same (h3 ▸ cmpI_any asq bsq W)
  have H4 := fun W => flip_same (h4 ▸ cmpI_any akd bkd W)
  have H5 := fun W => flip_same (h5 ▸ cmpI_any adt bdt W)
  clear h0 h1 h2 h3 h4 h5
  go_enter Try.func102, Try.ntmps102
  go_wp2; refine region_tail 30 (by kernel_rfl) (by kernel_rfl) ?_; simp only [List.take_succ_cons, List.take_zero, List.drop_succ_cons, List.drop_zero]
  iterate 4 still_step
  still_call (H0 _)
  iterate 4 still_step
  still_call (H1 _)
  iterate 4 still_step
  still_call (H2 _)
  iterate 4 still_step
  still_call (H3 _)
  iterate 4 still_step
  still_call (H4 _)
  iterate 4 still_step
  still_call (H5 _)
  refine wpStill_nil ?_; clear H0 H1 H2 H3 H4 H5
  go_wp2_with fail
  refine (or_any _ 0 6 6 [c0, c1, c2, c3, c4, c5] _ rfl (by omega) ?_).mono ?_
  · intro j hj
    have h6 : j = 0 ∨ j = 1 ∨ j = 2 ∨ j = 3 ∨ j = 4 ∨ j = 5 := by omega
    rcases h6 with rfl | rfl | rfl | rfl | rfl | rfl <;> simp [go_sem]
  · rintro x w' ⟨rfl, rfl⟩
    go_wp2; go_ret
    exact ⟨rfl, ((((Up.refl _).alloc _).alloc _).alloc _).drew⟩
end Go.Proofs.Ytakmlfgkppekoaa

namespace Go.Proofs.Ytakmlfgkppekoaa
set_option maxRecDepth 100000
open Go.RowKit
/-- Is the first field that differs less? -/
def ltE (a b : Evt) : Bool := decide (cmpE a b < 0)
/-- The six numbers as a list. -/
def Evt.l (e : Evt) : List Int := [e.t, e.to, e.fr, e.sq, e.kd, e.dt]
/-- A new slice of these numbers. -/
def NewInts (zs : List Int) (w : World) (x : Ending) (w' : World) : Prop :=
  ∃ g, x = .returned (.slice (some ⟨g, 0, none⟩) zs.length zs.length) ∧ w.heap.size ≤ g ∧ g < w'.heap.size ∧ (∀ j, j < zs.length → w'.cell? ⟨g, j, none⟩ = some (.int .i64 (zs.getD j 0))) ∧ Up w w'
theorem l1List_any (e : Evt) (w : World) : Calls Try.prog 143 #[e.v] w (NewInts e.l w) := by
  obtain ⟨et, eto, efr, esq, ekd, edt⟩ := e; unfold Evt.v Evt.l; dsimp only
  go_enter Try.func143, Try.ntmps143
  go_wp2; go_ret; refine ⟨w.heap.size + 1, rfl, by omega, by simp, ?_, ((Up.refl _).alloc _).alloc _⟩; intro j hj
  have h6 : j = 0 ∨ j = 1 ∨ j = 2 ∨ j = 3 ∨ j = 4 ∨ j = 5 := by simp at hj; omega
  rcases h6 with rfl | rfl | rfl | rfl | rfl | rfl <;> simp [go_sem]
theorem cmpI_lt {x y : Int} : cmpI x y < 0 ↔ x < y := by unfold cmpI; split <;> (try split) <;> omega
theorem cmpI_eq {x y : Int} : cmpI x y = 0 ↔ x = y := by unfold cmpI; split <;> (try split) <;> omega
/-- The signs of the fields. -/
def sgs (a b : Evt) : List Int := [cmpI a.t b.t, cmpI a.to b.to, cmpI a.fr b.fr, cmpI a.sq b.sq, cmpI a.kd b.kd, cmpI a.dt b.dt]
theorem sgs_getD (a b : Evt) (k : Nat) (hk : k < 6) : (sgs a b).getD k 0 = cmpI (a.l.getD k 0) (b.l.getD k 0) := by
  have h6 : k = 0 ∨ k = 1 ∨ k = 2 ∨ k = 3 ∨ k = 4 ∨ k = 5 := by omega
  rcases h6 with rfl | rfl | rfl | rfl | rfl | rfl <;> rfl
theorem less_step (a b : Evt) (k : Nat) (hk : k < 6) (hr : orL ((sgs a b).drop k) = cmpE a b) (he : a.l.getD k 0 = b.l.getD k 0) : orL ((sgs a b).drop (k + 1)) = cmpE a b := by
  rw [← hr, orL_drop _ k (by simpa [sgs] using hk), sgs_getD _ _ _ hk, if_pos (cmpI_eq.2 he)]
theorem less_here (a b : Evt) (k : Nat) (hk : k < 6) (hr : orL ((sgs a b).drop k) = cmpE a b) (he : ¬ a.l.getD k 0 = b.l.getD k 0) : decide (a.l.getD k 0 < b.l.getD k 0) = ltE a b := by
  unfold ltE; rw [← hr, orL_drop _ k (by simpa [sgs] using hk), sgs_getD _ _ _ hk, if_neg (fun h => he (cmpI_eq.1 h))]; simp [cmpI_lt]
theorem less_end (a b : Evt) (k : Nat) (hk : 6 ≤ k) (hr : orL ((sgs a b).drop k) = cmpE a b) : false = ltE a b := by
  unfold ltE; rw [← hr, List.drop_eq_nil_of_le (by simpa [sgs] using hk)]
  rfl
theorem specLess_any (a b : Evt) (w : World) : Calls Try.prog 118 #[a.v, b.v] w fun x w' => x = .returned (.bool (ltE a b)) ∧ Up w w' := by
  have ca := fun W => l1List_any a W
  have cb := fun W => l1List_any b W
  have st := less_step a b
  have he := less_here a b
  have en := less_end a b
  have h0 : orL ((sgs a b).drop 0) = cmpE a b := rfl
  have la : a.l.length = 6 := rfl
  have lb : b.l.length = 6 := rfl
  generalize ltE a b = r at he en ⊢
  generalize sgs a b = zs at st he en h0
  generalize cmpE a b = c at st he en h0
  generalize hxa : a.l = xa at ca st he la
  generalize hxb : b.l = xb at cb st he lb
  clear hxa hxb; obtain ⟨at_, ato, afr, asq, akd, adt⟩ := a; obtain ⟨bt, bto, bfr, bsq, bkd, bdt⟩ := b; unfold Evt.v at ca cb ⊢; dsimp only at ca cb ⊢
  have CA := Lib.hid ca
  have CB := Lib.hid cb
  have ST := Lib.hid st
  have HE := Lib.hid he
  have EN := Lib.hid en
  have H0 := Lib.hid h0
  have LA := Lib.hid la
  have LB := Lib.hid lb
  clear ca cb st he en h0 la lb
  go_enter Try.func118, Try.ntmps118
  go_wp2_with fail
  refine (CA.out _).mono ?_; rintro x w1 ⟨ga, rfl, ga1, ga2, hca, u1⟩; rw [LA.out] at hca ⊢
  have HCA := Lib.hid hca
  clear hca; obtain ⟨hc, hf, hz⟩ := u1.facts; simp at hz ga1
  go_wp2_with fail
  refine (CB.out _).mono ?_; rintro x w2 ⟨gb, rfl, gb1, gb2, hcb, u2⟩; rw [LB.out] at hcb ⊢
  have HCB := Lib.hid hcb
  clear hcb; clear hc hf
  have u := ((((Up.refl _).alloc _).alloc _).trans u1).trans u2
  have hcA : ∀ j, j < 6 → w2.cell? ⟨ga, j, none⟩ = some (.int .i64 (xa.getD j 0)) := fun j hj => (u2.cells ga j ga2).trans (HCA.out j hj)
  have HCA2 := Lib.hid hcA
  clear hcA
  have ga3 : ga < w2.heap.size := by have := u2.size; omega
  go_wp2
  go_loopw [7] (fun i wr => (∃ k : Nat, k ≤ 6 ∧ i = .int .i64 k ∧ orL (zs.drop k) = c) ∧ Up w2 wr) (fun i _ => 6 - (intOf i).toNat)
  case atStart => exact ⟨⟨0, by omega, rfl, H0.out⟩, Up.refl _⟩
  case round =>
    obtain ⟨⟨k, hk, rfl, hr⟩, ur⟩ := hrel
    have HR := Lib.hid hr
    clear hr
    by_cases hlt : k < 6
    · have hk1 := (ur.cells ga k ga3).trans (HCA2.out k hlt)
      have hk2 := (ur.cells gb k gb2).trans (HCB.out k hlt)
      have S := ST.out k hlt HR.out
      have E := HE.out k hlt HR.out
      generalize xa.getD k 0 = p at hk1 S E
      generalize xb.getD k 0 = q at hk2 S E
      have S' := Lib.hid S
      have E' := Lib.hid E
      clear S E
      by_cases hpq : p = q
      · have hne : (p != q) = false := by simp [hpq]
        have HP := Lib.hid hpq
        clear hpq; go_wp2
        go_quiet (fail)
        go_wp2
        go_roundw
        case rel => exact ⟨⟨k + 1, by omega, by go_num, S'.out HP.out⟩, ur.drewN _⟩
        case measure => simp [intOf]; omega
      · have hne : (p != q) = true := by simp [hpq]
        have HP := Lib.hid hpq
        clear hpq; go_wp2
        go_quiet (fail)
        go_wp2
        go_quiet (fail)
        go_wp2; go_ret
        exact ⟨ret_bool (E'.out HP.out), ((u.trans ur).drewN _).drewN _⟩
    · go_wp2
      go_ret
      exact ⟨ret_bool (EN.out k (by omega) HR.out), u.trans ur⟩
end Go.Proofs.Ytakmlfgkppekoaa

namespace Go.Proofs.Ytakmlfgkppekoaa
set_option maxRecDepth 100000
open Go.RowKit
/-- The six cells of an event, from o on. -/
def EvAt (w : World) (b o : Nat) (e : Evt) : Prop :=
  w.cell? ⟨b, o, none⟩ = some (.int .i64 e.t) ∧ w.cell? ⟨b, o + 1, none⟩ = some (.int .i64 e.to) ∧ w.cell? ⟨b, o + 2, none⟩ = some (.int .i64 e.fr) ∧
  w.cell? ⟨b, o + 3, none⟩ = some (.int .i64 e.sq) ∧ w.cell? ⟨b, o + 4, none⟩ = some (.int .i64 e.kd) ∧ w.cell? ⟨b, o + 5, none⟩ = some (.int .i64 e.dt)
/-- The slice at A of n elements holds the list. -/
def Evs (w : World) (A : Option Addr) (n : Nat) (es : List Evt) : Prop :=
  es.length = n ∧ (0 < n → ∃ b off, A = some ⟨b, off, none⟩ ∧ b < w.heap.size ∧ ∀ i, i < n → EvAt w b (off + i * 6) (es.getD i default))
theorem EvAt.up {w w' : World} {b o : Nat} {e : Evt} (h : EvAt w b o e) (u : Up w w') (hb : b < w.heap.size) : EvAt w' b o e := by
  obtain ⟨h0, h1, h2, h3, h4, h5⟩ := h
  exact ⟨(u.cells _ _ hb).trans h0, (u.cells _ _ hb).trans h1, (u.cells _ _ hb).trans h2, (u.cells _ _ hb).trans h3, (u.cells _ _ hb).trans h4, (u.cells _ _ hb).trans h5⟩
theorem Evs.up {w w' : World} {A : Option Addr} {n : Nat} {es : List Evt} (h : Evs w A n es) (u : Up w w') : Evs w' A n es :=
  ⟨h.1, fun hn => by
    obtain ⟨b, off, hA, hb, hc⟩ := h.2 hn
    exact ⟨b, off, hA, by have := u.size; omega, fun i hi => (hc i hi).up u hb⟩⟩
/-- Are they in order, none twice? -/
def riseB : List Evt → Bool
  | a :: b :: r => ltE a b && riseB (b :: r)
  | _ => true
theorem riseB_drop (es : List Evt) (j : Nat) (h : j + 1 < es.length) : riseB (es.drop j) = (ltE (es.getD j default) (es.getD (j + 1) default) && riseB (es.drop (j + 1))) := by
  rw [List.drop_eq_getElem_cons (show j < es.length by omega), List.drop_eq_getElem_cons h, riseB]; simp [show j < es.length by omega, h]
theorem riseB_end (es : List Evt) (j : Nat) (h : es.length ≤ j + 1) : riseB (es.drop j) = true := by
  have : (es.drop j).length ≤ 1 := by simp; omega
  match hd : es.drop j, this with
  | [], _ => rfl
  | [a], _ => rfl
end Go.Proofs.Ytakmlfgkppekoaa

namespace Go.Proofs.Ytakmlfgkppekoaa
set_option maxRecDepth 100000
open Go.RowKit
/-- The bytes of a slice that came in. -/
def Bys (w : World) (A : Option Addr) (n B : Nat) : Prop :=
  0 < n → ∃ b off, A = some ⟨b, off, none⟩ ∧ b < B ∧ ∀ i, i < n → ∃ z : Nat, z ≤ 255 ∧ w.cell? ⟨b, off + i, none⟩ = some (.int .u8 (z : Int))
/-- The reader at block g, which has picked at most N times. -/
def Rd (w : World) (g N : Nat) : Prop :=
  ∃ A n cap p, w.cell? ⟨g, 0, none⟩ = some (.slice A n cap) ∧ w.cell? ⟨g, 1, none⟩ = some (.int .i64 (p : Nat)) ∧ w.frozen? ⟨g, 1, none⟩ = false ∧ p ≤ N ∧ g < w.heap.size ∧ n ≤ 2000 ∧ Bys w A n g
/-- w' is w with new blocks, and block g may be written. -/
structure Mv (g : Nat) (w w' : World) : Prop where
  os : w'.os = w.os
  tape : w'.tape = w.tape
  output : w'.output = w.output
  size : w.heap.size ≤ w'.heap.size
  block : ∀ k, k < w.heap.size → k ≠ g → w'.heap[k]? = w.heap[k]?
theorem Mv.refl (g : Nat) (w : World) : Mv g w w := ⟨rfl, rfl, rfl, Nat.le_refl _, fun _ _ _ => rfl⟩
theorem Mv.trans {g : Nat} {a b c : World} (h : Mv g a b) (k : Mv g b c) : Mv g a c :=
  ⟨k.os.trans h.os, k.tape.trans h.tape, k.output.trans h.output, Nat.le_trans h.size k.size, fun j hj hne => (k.block j (Nat.lt_of_lt_of_le hj h.size) hne).trans (h.block j hj hne)⟩
theorem Up.mv {w w' : World} (h : Up w w') (g : Nat) : Mv g w w' := ⟨h.below.os, h.below.tape, h.below.output, h.size, fun k hk _ => h.below.block k hk⟩
theorem Mv.up {g : Nat} {a w w' : World} (h : Mv g w w') (k : Up a w) (hg : a.heap.size ≤ g) : Up a w' :=
  ⟨h.os.trans k.below.os, h.tape.trans k.below.tape, h.output.trans k.below.output, Nat.le_trans k.size h.size, fun j hj => (h.block j (Nat.lt_of_lt_of_le hj k.size) (by omega)).trans (k.below.block j hj)⟩
theorem Mv.setCell {g : Nat} {a w : World} (h : Mv g a w) {o : Nat} (u : Value) : Mv g a (w.setCell ⟨g, o, none⟩ u) :=
  ⟨h.os, h.tape, h.output, by simpa using h.size, fun k hk hne => (Below.heap_setCell w ⟨g, o, none⟩ u k hne).trans (h.block k hk hne)⟩
theorem Mv.drew {g : Nat} {a w : World} (h : Mv g a w) : Mv g a w.drew := ⟨h.os, h.tape, h.output, h.size, h.block⟩
theorem Mv.alloc {g : Nat} {a w : World} (h : Mv g a w) (o : Obj) : Mv g a (w.alloc o) := h.trans ((Up.refl w).alloc o |>.mv g)
theorem Mv.cells {g : Nat} {w w' : World} (h : Mv g w w') : ∀ b o, b < w.heap.size → b ≠ g → w'.cell? ⟨b, o, none⟩ = w.cell? ⟨b, o, none⟩ := fun b o hb hne => World.cell?_of_block (w := w) (a := ⟨b, o, none⟩) (h.block b hb hne)
theorem Mv.frozens {g : Nat} {w w' : World} (h : Mv g w w') : ∀ b o, b < w.heap.size → b ≠ g → w'.frozen? ⟨b, o, none⟩ = w.frozen? ⟨b, o, none⟩ := fun b o hb hne => World.frozen?_of_block (w := w) (a := ⟨b, o, none⟩) (h.block b hb hne)
theorem Bys.keep {w w' : World} {A : Option Addr} {n B : Nat} (h : Bys w A n B) (k : ∀ b o, b < B → w'.cell? ⟨b, o, none⟩ = w.cell? ⟨b, o, none⟩) : Bys w' A n B := fun hn => by
  obtain ⟨b, off, hA, hb, hc⟩ := h hn
  exact ⟨b, off, hA, hb, fun i hi => by
    obtain ⟨z, hz, hc⟩ := hc i hi
    exact ⟨z, hz, (k _ _ hb).trans hc⟩⟩
/-- Block g is left alone: the reader stays. -/
theorem Rd.up {w w' : World} {g N : Nat} (h : Rd w g N) (u : Up w w') : Rd w' g N := by
  obtain ⟨A, n, cap, p, h0, h1, hf, hp, hg, hn, hb⟩ := h
  exact ⟨A, n, cap, p, (u.cells _ _ hg).trans h0, (u.cells _ _ hg).trans h1, (u.frozens _ _ hg).trans hf, hp, by have := u.size; omega, hn, hb.keep fun b o hb => u.cells b o (by omega)⟩
theorem Rd.mono {w : World} {g N N' : Nat} (h : Rd w g N) (hN : N ≤ N') : Rd w g N' := by
  obtain ⟨A, n, cap, p, h0, h1, hf, hp, hr⟩ := h
  exact ⟨A, n, cap, p, h0, h1, hf, by omega, hr⟩
/-- What a pick gives: a number below m (0, if there is none), and the reader is one further. -/
def Picked (g N : Nat) (m : Int) (w : World) (x : Ending) (w' : World) : Prop :=
  ∃ v : Int, x = .returned (.int .i64 v) ∧ 0 ≤ v ∧ (v < m ∨ v = 0) ∧ Rd w' g (N + 1) ∧ Mv g w w'
theorem xor_i64 (a b : Nat) (ha : a < 4611686018427387904) (hb : b < 4611686018427387904) : ∃ c : Nat, c < 4611686018427387904 ∧ bits .xor .i64 (a : Int) (b : Int) = (c : Int) := by
  have hx : a ^^^ b < 2 ^ 62 := Nat.xor_lt_two_pow (by omega) (by omega)
  refine ⟨a ^^^ b, by omega, ?_⟩
  have h1 : (BitVec.ofInt 64 (a : Int)).toNat = a := by
    rw [BitVec.ofInt_natCast, BitVec.toNat_ofNat]; exact Nat.mod_eq_of_lt (by omega)
  have h2 : (BitVec.ofInt 64 (b : Int)).toNat = b := by
    rw [BitVec.ofInt_natCast, BitVec.toNat_ofNat]; exact Nat.mod_eq_of_lt (by omega)
  show IntKind.i64.wrap ((BitVec.ofInt 64 (a : Int) ^^^ BitVec.ofInt 64 (b : Int)).toNat : Int) = _
  rw [BitVec.toNat_xor, h1, h2, IntKind.wrap_i64]
  omega
/-- The reader behind a step. -/
theorem Rd.step {w : World} {g N n cap p : Nat} {A : Option Addr} (h0 : w.cell? ⟨g, 0, none⟩ = some (.slice A n cap)) (h1 : w.cell? ⟨g, 1, none⟩ = some (.int .i64 (p : Nat))) (hf : w.frozen? ⟨g, 1, none⟩ = false)
    (hp : p ≤ N) (hg : g < w.heap.size) (hn : n ≤ 2000) (hb : Bys w A n g) : Rd (w.setCell ⟨g, 1, none⟩ (.int .i64 ((p : Int) + 1))) g (N + 1) := by
  have ne : (⟨g, 1, none⟩ : Addr) ≠ ⟨g, 0, none⟩ := by intro e; injection e with _ e2; cases e2
  refine ⟨A, n, cap, p + 1, (World.cell?_setCell_other _ _ _ _ ne).trans h0, World.cell?_setCell_same _ _ _ h1, ?_, by omega, by simpa using hg, hn, hb.keep fun b o hb => World.cell?_setCell_other _ _ _ _ ?_⟩
  · simpa [go_sem] using hf
  · intro e
    injection e with e1
    omega
theorem Rd.setCell {w : World} {g N : Nat} (h : Rd w g N) {p : Addr} (hp : g < p.block) (u : Value) : Rd (w.setCell p u) g N := by
  obtain ⟨A, n, cap, p', h0, h1, hf, hp', hg, hn, hb⟩ := h
  have ne : ∀ b o, b ≤ g → p ≠ ⟨b, o, none⟩ := fun b o hb e => by subst e; exact absurd hp (by simpa using hb)
  exact ⟨A, n, cap, p', (World.cell?_setCell_other _ _ _ _ (ne _ _ (Nat.le_refl _))).trans h0, (World.cell?_setCell_other _ _ _ _ (ne _ _ (Nat.le_refl _))).trans h1, by simpa [go_sem] using hf, hp', by simpa using hg, hn, hb.keep fun b o hb => World.cell?_setCell_other _ _ _ _ (ne _ _ (by omega))⟩
end Go.Proofs.Ytakmlfgkppekoaa

namespace Go.Proofs.Ytakmlfgkppekoaa
set_option maxRecDepth 100000
open Go.ChangeShapes Go.WideShapes Go.ChangeAt Go.RowKit Go.Joins Go.Deep
set_option linter.unusedVariables false
theorem own : ownKnob Try.prog.godebug = none := by kernel_rfl
theorem laidOut : laidOutB Try.prog = true := by kernel_rfl
section
variable {H : Type} {enc : TypeId × Value → H} {P : Program} {w : World} {base : Nat} {spare : Nat → Bool} {held : Bool}
end
theorem block_lt {w : World} {b o : Nat} {v : Value} (h : w.cell? ⟨b, o, none⟩ = some v) : b < w.heap.size := by
  rcases Nat.lt_or_ge b w.heap.size with hlt | hge
  · exact hlt
  · simp [World.cell?, Array.getElem?_eq_none hge] at h
end Go.Proofs.Ytakmlfgkppekoaa

namespace Go.Proofs.Ytakmlfgkppekoaa
set_option maxRecDepth 100000
open Go.ChangeShapes Go.WideShapes Go.ChangeAt Go.RowKit Go.Joins Go.Deep
set_option linter.unusedVariables false
/-- A code that came in. -/
theorem open_bytes {H : Type} {enc : TypeId × Value → H} {w : World} {base : Nat} {spare : Nat → Bool} {held : Bool} {A : Option Addr} {n cap : Nat} {d : DataW H} {p : List MemPlace}
    (h : DataW.Trod enc Try.prog w base spare held 54 (.slice A n cap) d p) : Bys w A n w.heap.size ∧ n ≤ cap ∧ cap ≤ 9223372036854775807 := by
  obtain ⟨fuel, hf⟩ := h
  rcases open_ints Try.underlying54 Try.underlying5 (by kernel_rfl) hf with ⟨hcs, _⟩ | ⟨x, l, c, zs, hcs, _, hl, hm, hz, _, hcell, hwz⟩
  · simp [Value.cells] at hcs
    obtain ⟨rfl, rfl, rfl⟩ := hcs
    exact ⟨fun h0 => absurd h0 (by omega), by omega, by omega⟩
  · simp [Value.cells] at hcs
    obtain ⟨rfl, rfl, rfl⟩ := hcs; refine ⟨fun h0 => ?_, hl, by unfold maxLen at hm; omega⟩
    have hlen : n ≤ zs.length := by rw [hz]; split <;> omega
    obtain ⟨b, off, spot⟩ := x
    have c0 := hcell 0 (by omega)
    have hspot : spot = none := by simpa [Addr.add] using World.cell?_spot c0
    subst hspot
    have c0' : w.cell? ⟨b, off, none⟩ = some (.int .u8 (zs.getD 0 0)) := by simpa [Addr.add] using c0
    refine ⟨b, off, rfl, block_lt c0', fun i hi => ?_⟩
    have ci := hcell i (by omega)
    have ad : (⟨b, off, none⟩ : Addr).add i = ⟨b, off + i, none⟩ := by
      unfold Addr.add
      split
      · rename_i h0; subst h0; rfl
      · rfl
    rw [ad] at ci
    have hmem : zs.getD i 0 ∈ zs := by
      have : i < zs.length := by omega
      simp [this]
    have wf := hwz _ hmem
    generalize zs.getD i 0 = z at ci wf
    have hz2 : 0 ≤ z ∧ z ≤ 255 := by simpa [Lit.wf, IntKind.min, IntKind.max, IntKind.signed, IntKind.bits] using wf
    exact ⟨z.toNat, by omega, by rw [ci]; congr 2; omega⟩
end Go.Proofs.Ytakmlfgkppekoaa

namespace Go.Proofs.Ytakmlfgkppekoaa
set_option maxRecDepth 100000
open Go.RowKit
/-- The world with an event's six cells laid. -/
def putEv (w : World) (b o : Nat) (e : Evt) : World :=
  (((((w.setCell ⟨b, o, none⟩ (.int .i64 e.t)).setCell ⟨b, o + 1, none⟩ (.int .i64 e.to)).setCell ⟨b, o + 2, none⟩ (.int .i64 e.fr)).setCell ⟨b, o + 3, none⟩ (.int .i64 e.sq)).setCell ⟨b, o + 4, none⟩ (.int .i64 e.kd)).setCell ⟨b, o + 5, none⟩ (.int .i64 e.dt)
theorem addr_ne {b b' o o' : Nat} (h : b ≠ b' ∨ o ≠ o') : (⟨b, o, none⟩ : Addr) ≠ ⟨b', o', none⟩ := by
  intro e
  injection e with e1 e2
  rcases h with h | h
  · exact h e1
  · exact h e2
theorem putEv_at {w : World} {b o : Nat} {e : Evt} (h : ∀ k, k < 6 → ∃ v, w.cell? ⟨b, o + k, none⟩ = some v) : EvAt (putEv w b o e) b o e := by
  have ne : ∀ k j, k ≠ j → (⟨b, o + k, none⟩ : Addr) ≠ ⟨b, o + j, none⟩ := fun k j hk => addr_ne (by omega)
  have nez : ∀ k, k ≠ 0 → (⟨b, o + k, none⟩ : Addr) ≠ ⟨b, o, none⟩ := fun k hk => addr_ne (by omega)
  unfold putEv; obtain ⟨v0, h0⟩ := h 0 (by omega); obtain ⟨v1, h1⟩ := h 1 (by omega); obtain ⟨v2, h2⟩ := h 2 (by omega); obtain ⟨v3, h3⟩ := h 3 (by omega); obtain ⟨v4, h4⟩ := h 4 (by omega); obtain ⟨v5, h5⟩ := h 5 (by omega)
  have s0 := World.cell?_setCell_same _ _ (.int .i64 e.t) h0
  have s0 : (w.setCell ⟨b, o, none⟩ (.int .i64 e.t)).cell? ⟨b, o, none⟩ = some (.int .i64 e.t) := s0
  have ne0 : ∀ j, 0 ≠ j → (⟨b, o, none⟩ : Addr) ≠ ⟨b, o + j, none⟩ := fun j hj => addr_ne (by omega)
  generalize hw0 : w.setCell ⟨b, o, none⟩ (.int .i64 e.t) = w0 at s0 ⊢
  have g1 : w0.cell? ⟨b, o + 1, none⟩ = some v1 := by rw [← hw0, World.cell?_setCell_other _ _ _ _ (ne0 1 (by omega))]; exact h1
  have g2 : w0.cell? ⟨b, o + 2, none⟩ = some v2 := by rw [← hw0, World.cell?_setCell_other _ _ _ _ (ne0 2 (by omega))]; exact h2
  have g3 : w0.cell? ⟨b, o + 3, none⟩ = some v3 := by rw [← hw0, World.cell?_setCell_other _ _ _ _ (ne0 3 (by omega))]; exact h3
  have g4 : w0.cell? ⟨b, o + 4, none⟩ = some v4 := by rw [← hw0, World.cell?_setCell_other _ _ _ _ (ne0 4 (by omega))]; exact h4
  have g5 : w0.cell? ⟨b, o + 5, none⟩ = some v5 := by rw [← hw0, World.cell?_setCell_other _ _ _ _ (ne0 5 (by omega))]; exact h5
  simp only [EvAt]; refine ⟨?_, ?_, ?_, ?_, ?_, ?_⟩
  · rw [World.cell?_setCell_other _ _ _ _ (nez 5 (by omega)), World.cell?_setCell_other _ _ _ _ (nez 4 (by omega)), World.cell?_setCell_other _ _ _ _ (nez 3 (by omega)), World.cell?_setCell_other _ _ _ _ (nez 2 (by omega)), World.cell?_setCell_other _ _ _ _ (nez 1 (by omega))]
    exact s0
  · rw [World.cell?_setCell_other _ _ _ _ (ne 5 1 (by omega)), World.cell?_setCell_other _ _ _ _ (ne 4 1 (by omega)), World.cell?_setCell_other _ _ _ _ (ne 3 1 (by omega)), World.cell?_setCell_other _ _ _ _ (ne 2 1 (by omega))]
    exact World.cell?_setCell_same _ _ _ g1
  · rw [World.cell?_setCell_other _ _ _ _ (ne 5 2 (by omega)), World.cell?_setCell_other _ _ _ _ (ne 4 2 (by omega)), World.cell?_setCell_other _ _ _ _ (ne 3 2 (by omega))]
    exact World.cell?_setCell_same _ _ _ ((World.cell?_setCell_other _ _ _ _ (ne 1 2 (by omega))).trans g2)
  · rw [World.cell?_setCell_other _ _ _ _ (ne 5 3 (by omega)), World.cell?_setCell_other _ _ _ _ (ne 4 3 (by omega))]
    exact World.cell?_setCell_same _ _ _ ((World.cell?_setCell_other _ _ _ _ (ne 2 3 (by omega))).trans ((World.cell?_setCell_other _ _ _ _ (ne 1 3 (by omega))).trans g3))
  · rw [World.cell?_setCell_other _ _ _ _ (ne 5 4 (by omega))]
    exact World.cell?_setCell_same _ _ _ ((World.cell?_setCell_other _ _ _ _ (ne 3 4 (by omega))).trans ((World.cell?_setCell_other _ _ _ _ (ne 2 4 (by omega))).trans ((World.cell?_setCell_other _ _ _ _ (ne 1 4 (by omega))).trans g4)))
  · exact World.cell?_setCell_same _ _ _ ((World.cell?_setCell_other _ _ _ _ (ne 4 5 (by omega))).trans ((World.cell?_setCell_other _ _ _ _ (ne 3 5 (by omega))).trans ((World.cell?_setCell_other _ _ _ _ (ne 2 5 (by omega))).trans ((World.cell?_setCell_other _ _ _ _ (ne 1 5 (by omega))).trans g5))))
end Go.Proofs.Ytakmlfgkppekoaa

namespace Go.Proofs.Ytakmlfgkppekoaa
set_option maxRecDepth 100000
open Go.RowKit
theorem region_up {P : Program} {id : Nat} {Q : Exit → Act → World → Prop} {a : Act} {w : World} {l : List Oper} (hm : P.follows .mixedOrders = true) (hB : Region.lexB .any l.toArray = true)
    (h : wpQuiet P l.toArray (Up w) (fun a' => ∀ w', Up w w' → Q .normal a' w') l a) : (Code.region id l.toArray true).wp P Q a w :=
  wp_region_quiet (C := Up w) hm hB (show Up w w.drew from (Up.refl w).drew) (by simpa using h)
/-- One operation: one value, in every grown world. -/
theorem up_step {P : Program} {ops : Array Oper} {w : World} {Q : Act → Prop} {a : Act} {o : Oper} {rest : List Oper} (hg : o.guard = none)
    (h : ∃ v, (∀ w1, Up w w1 → Oper.quietUpon P (Up w) w1 v ((execOp a.eval o).run P w1)) ∧ wpQuiet P ops (Up w) Q rest (a.put o.dst v)) : wpQuiet P ops (Up w) Q (o :: rest) a :=
  wpQuiet_step fun K hK => by
    have hw : Region.wanted o (yielded ops a.tmps) = true := by simp [Region.wanted, hg]
    rw [if_pos hw]; obtain ⟨v, hq, hk⟩ := h
    exact ⟨v, hq, hK _ hk⟩
/-- A guarded operation that is wanted. -/
theorem up_want {P : Program} {ops : Array Oper} {w : World} {Q : Act → Prop} {a : Act} {o : Oper} {rest : List Oper} (hw : Region.wanted o (yielded ops a.tmps) = true)
    (h : ∃ v, (∀ w1, Up w w1 → Oper.quietUpon P (Up w) w1 v ((execOp a.eval o).run P w1)) ∧ wpQuiet P ops (Up w) Q rest (a.put o.dst v)) : wpQuiet P ops (Up w) Q (o :: rest) a :=
  wpQuiet_step fun K hK => by
    rw [if_pos hw]; obtain ⟨v, hq, hk⟩ := h
    exact ⟨v, hq, hK _ hk⟩
/-- A guarded operation that is not wanted. -/
theorem up_skip {P : Program} {ops : Array Oper} {w : World} {Q : Act → Prop} {a : Act} {o : Oper} {rest : List Oper} (hw : Region.wanted o (yielded ops a.tmps) = false)
    (h : wpQuiet P ops (Up w) Q rest (a.put o.dst undef)) : wpQuiet P ops (Up w) Q (o :: rest) a :=
  wpQuiet_step fun K hK => by
    rw [if_neg (by rw [hw]; exact Bool.false_ne_true)]
    exact hK _ h
theorem up_call {P : Program} {f : FuncId} {args : Array Value} {w w1 : World} {v : Value} (hw : Up w w1)
    (h : Calls P f args w1 fun e w' => e = .returned v ∧ Up w1 w') : Calls P f args w1 fun e w'' => e = .returned v ∧ Up w w'' :=
  h.mono fun _ _ ⟨he, u⟩ => ⟨he, hw.trans u⟩
end Go.Proofs.Ytakmlfgkppekoaa

/-
  What markEvtEvtS and heldEvtEvtS do, in one sentence: the one lays numbers in a row into a list of its own, the other finds them there; for every list that lies in memory.
  A region that draws its order and whose callees make new blocks, in one sentence: one walk in the order of the text serves every order, where each operation yields one value in every grown world.
  Appending onto a row of the call's own, in one sentence: the new row holds the old list and what was appended; for every source that lies in memory, nil let in.
  What marks do to a list in a block of the call's own, in one sentence: they are laid there and held; for every such list.
  What a new row of cells holds, in one sentence: something in each, none frozen; no condition is made.
  What toMdlSend returns, in one sentence: the same six numbers; for every send.
  What toEvtEvt returns, in one sentence: the same six numbers; for every event.
  What toEvtEvtS returns, in one sentence: a new slice of the same events; for every list that lies in memory.
  What toMdlSendS returns, in one sentence: a new slice of the same sends; for every list that lies in memory.
  What impl.ruleOk returns, in one sentence: the bool that the bounds of the rule and of what it sends give; for every rule that lies in memory.
-/
import Derived.Deep.AppendLies
import Derived.Deep.Draws
import Derived.Laws.OwnMore
import Derived.Maps.AppendAt
import Derived.OwnWalk
import Derived.RegionTactic
import Derived.Test.YtklldniapombiaaDLEwev01
import Derived.Test.YtklldniapombiaaDLEwev02
namespace Go.Proofs.Ytklldniapombiaa
set_option maxRecDepth 100000
open Go.RowKit
def markAt (i : Nat) : Evt := ⟨1 + 6 * i, 1 + 6 * i + 1, 1 + 6 * i + 1 + 1, 1 + 6 * i + 1 + 1 + 1, 1 + 6 * i + 1 + 1 + 1 + 1, 1 + 6 * i + 1 + 1 + 1 + 1 + 1⟩
def marks (n : Nat) : List Evt := (List.range n).map markAt
theorem marks_len (n : Nat) : (marks n).length = n := by simp [marks]
theorem marks_get (n i : Nat) (h : i < n) : (marks n).getD i default = markAt i := by simp [marks, List.getD, h]
theorem Own.part {w : World} {g n : Nat} {es : List Evt} (h : Own w g n es) (fs : List Evt) : Part w g n 0 fs :=
  ⟨h.2.1, fun i hi => absurd hi (by omega), fun j hj => ⟨by
    obtain ⟨h0, h1, h2, h3, h4, h5⟩ := h.2.2.1 (j / 6) (by omega)
    have e : j % 6 = 0 ∨ j % 6 = 1 ∨ j % 6 = 2 ∨ j % 6 = 3 ∨ j % 6 = 4 ∨ j % 6 = 5 := by omega
    rcases e with e | e | e | e | e | e
    · exact ⟨_, by rw [show j = j / 6 * 6 by omega]; exact h0⟩
    · exact ⟨_, by rw [show j = j / 6 * 6 + 1 by omega]; exact h1⟩
    · exact ⟨_, by rw [show j = j / 6 * 6 + 2 by omega]; exact h2⟩
    · exact ⟨_, by rw [show j = j / 6 * 6 + 3 by omega]; exact h3⟩
    · exact ⟨_, by rw [show j = j / 6 * 6 + 4 by omega]; exact h4⟩
    · exact ⟨_, by rw [show j = j / 6 * 6 + 5 by omega]; exact h5⟩, h.2.2.2 j hj⟩⟩
theorem Mv.putIn {g : Nat} {a w : World} (h : Mv g a w) (o : Nat) (e : Evt) : Mv g a (putEv w g o e) :=
  (((((h.setCell _).setCell _).setCell _).setCell _).setCell _).setCell _
set_option maxHeartbeats 4000000 in
theorem mark_any (g n c : Nat) (w : World) (hn : n ≤ 1100000) (hP : Part w g n 0 (marks n)) :
    Calls Try.prog 32 #[.slice (some ⟨g, 0, none⟩) n c, .int .i64 1] w fun x w' => x = .returned (.int .i64 (1 + 6 * (n : Int))) ∧ Part w' g n n (marks n) ∧ Mv g w w' := by
  have HP := Lib.hid hP
  have MG := Lib.hid (marks_get n)
  clear hP
  generalize marks n = ms at *
  go_enter Try.func32, Try.ntmps32
  go_wp2
  go_loopw [1, 5] (fun m i wr => (∃ k : Nat, k ≤ n ∧ i = .int .i64 k ∧ m = .int .i64 (1 + 6 * (k : Int)) ∧ Part wr g n k ms) ∧ Mv g w wr) (fun _ i _ => n - (intOf i).toNat)
  case atStart => exact ⟨⟨0, by omega, rfl, rfl, HP.out⟩, Mv.refl _ _⟩
  case round =>
    obtain ⟨⟨k, hk, rfl, rfl, hp⟩, mv⟩ := hrel
    have PP := Lib.hid hp
    have MV := Lib.hid mv
    have hg := hp.1
    clear hp mv
    by_cases hlt : k < n
    · obtain ⟨⟨v0, s0⟩, f0⟩ := PP.out.2.2 (k * 6) (by omega)
      obtain ⟨⟨v1, s1⟩, f1⟩ := PP.out.2.2 (k * 6 + 1) (by omega); obtain ⟨⟨v2, s2⟩, f2⟩ := PP.out.2.2 (k * 6 + 2) (by omega); obtain ⟨⟨v3, s3⟩, f3⟩ := PP.out.2.2 (k * 6 + 3) (by omega); obtain ⟨⟨v4, s4⟩, f4⟩ := PP.out.2.2 (k * 6 + 4) (by omega); obtain ⟨⟨v5, s5⟩, f5⟩ := PP.out.2.2 (k * 6 + 5) (by omega)
      have NX := Lib.hid (PP.out.put (MG.out k hlt) hlt)
      have MX := Lib.hid (MV.out.putIn (k * 6) (markAt k))
      unfold putEv markAt at NX MX; dsimp only at NX MX
      generalize hK : 1 + 6 * (k : Int) = K at NX MX ⊢
      have HK := Lib.hid hK
      have b0 : 0 ≤ K := by omega
      have b1 : K ≤ 7000000 := by omega
      have i4 : (k : Int) < n := by omega
      clear hK; go_wp2
      go_roundw
      case rel => exact ⟨⟨k + 1, by omega, by go_num, by have := HK.out; first | (congr 1; omega) | go_num, NX.out⟩, MX.out⟩
      case measure => simp [intOf]; omega
    · obtain rfl : k = n := by omega
      have i4 : ¬ (k : Int) < k := by omega
      go_wp2; go_ret
      exact ⟨rfl, PP.out, MV.out⟩
theorem mark_none (A : Option Addr) (c : Nat) (w : World) : Calls Try.prog 32 #[.slice A 0 c, .int .i64 1] w fun x w' => x = .returned (.int .i64 1) ∧ Up w w' := by
  go_enter Try.func32, Try.ntmps32
  go_wp2
  go_loopw [1, 5] (fun m i wr => m = .int .i64 1 ∧ i = .int .i64 0 ∧ Up w wr) (fun _ _ _ => 0)
  case atStart => exact ⟨rfl, rfl, Up.refl _⟩
  case round =>
    obtain ⟨rfl, rfl, u⟩ := hrel; go_wp2; go_ret
    exact ⟨rfl, u⟩
set_option maxHeartbeats 4000000 in
theorem held_any (A : Option Addr) (n c : Nat) (w : World) (hn : n ≤ 1100000) (hE : Evs w A n (marks n)) :
    Calls Try.prog 33 #[.slice A n c, .int .i64 1] w fun x w' => x = .returned (.int .i64 (1 + 6 * (n : Int))) ∧ Up w w' := by
  have HE := Lib.hid hE
  have MG := Lib.hid (marks_get n)
  clear hE
  generalize marks n = ms at *
  go_enter Try.func33, Try.ntmps33
  go_wp2
  go_loopw [1, 5] (fun m i wr => (∃ k : Nat, k ≤ n ∧ i = .int .i64 k ∧ m = .int .i64 (1 + 6 * (k : Int))) ∧ Up w wr) (fun _ i _ => n - (intOf i).toNat)
  case atStart => exact ⟨⟨0, by omega, rfl, rfl⟩, Up.refl _⟩
  case round =>
    obtain ⟨⟨k, hk, rfl, rfl⟩, ur⟩ := hrel
    by_cases hlt : k < n
    · obtain ⟨b, off, hA, hb, hc⟩ := HE.out.2 (by omega)
      subst hA
      have a0 := (hc k hlt).up ur hb
      rw [MG.out k hlt] at a0
      have hb' : b < wr.heap.size := by have := ur.size; omega
      clear hc; unfold EvAt markAt at a0; dsimp only at a0
      generalize hK : 1 + 6 * (k : Int) = K at a0 ⊢
      have HK := Lib.hid hK
      have b0 : 0 ≤ K := by omega
      have b1 : K ≤ 7000000 := by omega
      have i4 : (k : Int) < n := by omega
      obtain ⟨p0, p1, p2, p3, p4, p5⟩ := a0; clear hK; go_wp2
      go_roundw
      case rel => exact ⟨⟨k + 1, by omega, by go_num, by have := HK.out; first | (congr 1; omega) | go_num⟩, ur⟩
      case measure => simp [intOf]; omega
    · obtain rfl : k = n := by omega
      have i4 : ¬ (k : Int) < k := by omega
      go_wp2; go_ret
      exact ⟨rfl, ur⟩
end Go.Proofs.Ytklldniapombiaa

namespace Go.Proofs.Ytklldniapombiaa
set_option maxRecDepth 100000
open Go.RowKit
theorem region_up {P : Program} {id : Nat} {Q : Exit → Act → World → Prop} {a : Act} {w : World} {l : List Oper} (hm : P.follows .mixedOrders = true) (hB : Region.lexB .any l.toArray = true)
    (h : wpQuiet P l.toArray (Up w) (fun a' => ∀ w', Up w w' → Q .normal a' w') l a) : (Code.region id l.toArray true).wp P Q a w :=
  wp_region_quiet (C := Up w) hm hB (show Up w w.drew from (Up.refl w).drew) (by simpa using h)
/-- One operation: one value, in every grown world. -/
theorem up_step {P : Program} {ops : Array Oper} {w : World} {Q : Act → Prop} {a : Act} {o : Oper} {rest : List Oper} (hg : o.guard = none)
    (h : ∃ v, (∀ w1, Up w w1 → Oper.quietUpon P (Up w) w1 v ((execOp a.eval o).run P w1)) ∧ wpQuiet P ops (Up w) Q rest (a.put o.dst v)) : wpQuiet P ops (Up w) Q (o :: rest) a :=
  wpQuiet_step fun K hK => by
    have hw : Region.wanted o (yielded ops a.tmps) = true := by simp [Region.wanted, hg]
    rw [if_pos hw]; obtain ⟨v, hq, hk⟩ := h
    exact ⟨v, hq, hK _ hk⟩
theorem up_call {P : Program} {f : FuncId} {args : Array Value} {w w1 : World} {v : Value} (hw : Up w w1)
    (h : Calls P f args w1 fun e w' => e = .returned v ∧ Up w1 w') : Calls P f args w1 fun e w'' => e = .returned v ∧ Up w w'' :=
  h.mono fun _ _ ⟨he, u⟩ => ⟨he, hw.trans u⟩
end Go.Proofs.Ytklldniapombiaa

namespace Go.Proofs.Ytklldniapombiaa
set_option maxRecDepth 100000
open Go.RowKit
def Reads (w : World) (B size : Nat) (A : Option Addr) (n : Nat) (xs : List Value) : Prop :=
  xs.length = n * size ∧ (0 < n → ∃ ad, A = some ad ∧ ad.block < B ∧ ∀ j u, xs[j]? = some u → w.cell? (ad.add j) = some u)
section
variable {w w' : World} {B B' size n : Nat} {A : Option Addr} {xs : List Value}
end
section
variable {P : Program} (w : World)
theorem run_append_of_nil (base : Nat) (t ty e : TypeId) (i : TypeInfo) (size : Nat) (ht : P.underlying t = some (.slice e)) (hi : P.info? e = some i)
    (v : Value) (n : Nat) (xs : List Value) (hown : w.ownsRow base e size v n xs) (c : Nat) : (Builtin.append_ #[t, t] ty #[v, .slice none 0 c]).run P w = .ok v w := by
  rcases hown.2 with ⟨rfl, rfl⟩ | ⟨g, cap, cur, rfl, _, _, hnc, _⟩
  · simp [Builtin.append_, run_underlying ht, sizeOf, typeInfo, hi, Builtin.lenOf, Builtin.firstCells]
  · simp [Builtin.append_, run_underlying ht, sizeOf, typeInfo, hi, Builtin.lenOf, Builtin.firstCells, hnc, storeCells]
theorem run_append_any (base : Nat) (t ty e : TypeId) (i : TypeInfo) (z : Value) (size bytes : Nat) (ht : P.underlying t = some (.slice e)) (hi : P.info? e = some i) (hz : i.zero = some z)
    (hsize : i.size = size) (hby : i.bytes = bytes) (hzs : z.cells.size = size) (hsz : 0 < size)
    (v : Value) (n : Nat) (xs : List Value) (hown : w.ownsRow base e size v n xs)
    (B : Nat) (A : Option Addr) (m c : Nat) (news : List Value) (hr : Reads w B size A m news) (h1 : ∀ u ∈ news, u.oneCell' = true)
    (h63 : n + m ≤ maxLen) (hbytes : (n + m) * bytes ≤ 140737488355328) (hbase : base ≤ w.heap.size) :
    ∃ v' w', (Builtin.append_ #[t, t] ty #[v, .slice A m c]).run P w = .ok v' w' ∧ w'.ownsRow base e size v' (n + m) (xs ++ news) ∧ w.grownBy w' v.ownBlock ∧
      (v'.ownBlock = v.ownBlock ∨ v'.ownBlock = some w.heap.size) := by
  rcases A with _ | ad
  · have hm : m = 0 := by
      rcases Nat.eq_zero_or_pos m with h0 | h0
      · exact h0
      · obtain ⟨ad, h, _⟩ := hr.2 h0
        cases h
    subst hm
    have hn : news = [] := List.eq_nil_of_length_eq_zero (by simpa using hr.1)
    subst hn
    exact ⟨v, w, run_append_of_nil w base t ty e i size ht hi v n xs hown c, by simpa using hown, World.grownBy.refl w _, .inl rfl⟩
  · have hcells : ∀ j u, news[j]? = some u → w.cell? (ad.add j) = some u := by
      intro j u hu
      rcases Nat.eq_zero_or_pos m with h0 | h0
      · subst h0
        have hn : news = [] := List.eq_nil_of_length_eq_zero (by simpa using hr.1)
        subst hn; simp at hu
      · obtain ⟨ad', h, _, hc⟩ := hr.2 h0
        injection h with h
        subst h
        exact hc j u hu
    obtain ⟨v', w', hrun, h2, h3, _, h5⟩ := run_append_own_at (P := P) w base t ty e i z size bytes ht hi hz hsize hby hzs hsz v n xs hown ad m c news hr.1 hcells h1 h63 hbytes hbase
    exact ⟨v', w', hrun, h2, h3, h5⟩
theorem wp_append_any {o : Oper} {a : Act} {K : Act → World → Prop} {Q : Exit → Act → World → Prop} (s x : Operand) (t : TypeId)
    (ho : o.op = .call { callee := .builtin .append, args := #[s, x], argTypes := #[t, t] })
    (base : Nat) (e : TypeId) (i : TypeInfo) (z : Value) (size bytes : Nat) (ht : P.underlying t = some (.slice e)) (hi : P.info? e = some i) (hz : i.zero = some z)
    (hsize : i.size = size) (hby : i.bytes = bytes) (hzs : z.cells.size = size) (hsz : 0 < size)
    (v : Value) (n : Nat) (xs : List Value) (hs : a.eval s = v) (hown : w.ownsRow base e size v n xs)
    (B : Nat) (A : Option Addr) (m c : Nat) (news : List Value) (hx : a.eval x = .slice A m c) (hr : Reads w B size A m news) (h1 : ∀ u ∈ news, u.oneCell' = true)
    (h63 : n + m ≤ maxLen) (hbytes : (n + m) * bytes ≤ 140737488355328) (hbase : base ≤ w.heap.size)
    (h : ∀ v' w', w'.ownsRow base e size v' (n + m) (xs ++ news) → w.grownBy w' v.ownBlock → (v'.ownBlock = v.ownBlock ∨ v'.ownBlock = some w.heap.size) → K (a.put o.dst v') w') : o.wp P a w K Q := by
  obtain ⟨v', w', hrun, h2, h3, h4⟩ := run_append_any (P := P) w base t o.type e i z size bytes ht hi hz hsize hby hzs hsz v n xs hown B A m c news hr h1 h63 hbytes hbase; unfold Oper.wp execOp; simp only [ho, resolve, invoke, builtin, Sem.run_bind, Sem.run_pure, Result.andThen_ok, List.map_toArray, List.map_cons, List.map_nil, hs, hx, hrun]
  exact h v' w' h2 h3 h4
theorem wpList_append_any {ops : Array Oper} {rest : List Oper} {o : Oper} {a : Act} {Q : Exit → Act → World → Prop} (hgd : o.guard = none) (s x : Operand) (t : TypeId)
    (ho : o.op = .call { callee := .builtin .append, args := #[s, x], argTypes := #[t, t] })
    (base : Nat) (e : TypeId) (i : TypeInfo) (z : Value) (size bytes : Nat) (ht : P.underlying t = some (.slice e)) (hi : P.info? e = some i) (hz : i.zero = some z)
    (hsize : i.size = size) (hby : i.bytes = bytes) (hzs : z.cells.size = size) (hsz : 0 < size)
    (v : Value) (n : Nat) (xs : List Value) (hs : a.eval s = v) (hown : w.ownsRow base e size v n xs)
    (B : Nat) (A : Option Addr) (m c : Nat) (news : List Value) (hx : a.eval x = .slice A m c) (hr : Reads w B size A m news) (h1 : ∀ u ∈ news, u.oneCell' = true)
    (h63 : n + m ≤ maxLen) (hbytes : (n + m) * bytes ≤ 140737488355328) (hbase : base ≤ w.heap.size)
    (h : ∀ v' w', w'.ownsRow base e size v' (n + m) (xs ++ news) → w.grownBy w' v.ownBlock → (v'.ownBlock = v.ownBlock ∨ v'.ownBlock = some w.heap.size) → wpList P ops Q rest (a.put o.dst v') w') : wpList P ops Q (o :: rest) a w :=
  wpList_plain hgd fun _ hK => wp_append_any w s x t ho base e i z size bytes ht hi hz hsize hby hzs hsz v n xs hs hown B A m c news hx hr h1 h63 hbytes hbase fun v' w' h2 h3 h4 => hK _ _ (h v' w' h2 h3 h4)
end
/-- An event's cells as a list. -/
def Evt.c6 (e : Evt) : List Value := [.int .i64 e.t, .int .i64 e.to, .int .i64 e.fr, .int .i64 e.sq, .int .i64 e.kd, .int .i64 e.dt]
/-- A list's cells. -/
def flat : List Evt → List Value
  | [] => []
  | e :: r => e.c6 ++ flat r
theorem flat_len : ∀ es : List Evt, (flat es).length = es.length * 6
  | [] => rfl
  | e :: r => by
    rw [flat, List.length_append, flat_len r]; simp [Evt.c6]
    omega
theorem flat_app : ∀ es fs : List Evt, flat (es ++ fs) = flat es ++ flat fs
  | [], _ => rfl
  | e :: r, fs => by rw [List.cons_append, flat, flat_app r fs, flat, List.append_assoc]
theorem flat_get : ∀ (es : List Evt) (i k : Nat), i < es.length → k < 6 → (flat es)[i * 6 + k]? = (es.getD i default).c6[k]?
  | [], i, _, hi, _ => absurd hi (by simp)
  | e :: r, 0, k, _, hk => by
    rw [flat, Nat.zero_mul, Nat.zero_add, List.getElem?_append_left (by simpa [Evt.c6] using hk)]
    rfl
  | e :: r, i + 1, k, hi, hk => by
    have hl : e.c6.length = 6 := rfl
    rw [flat, List.getElem?_append_right (by omega), hl, show (i + 1) * 6 + k - 6 = i * 6 + k by omega, flat_get r i k (by simpa using hi) hk]
    rfl
theorem flat_one (es : List Evt) : ∀ u ∈ flat es, u.oneCell' = true := by
  induction es with
  | nil => intro u hu; cases hu
  | cons e r ih =>
    intro u hu; rw [flat, List.mem_append] at hu
    rcases hu with hu | hu
    · simp only [Evt.c6, List.mem_cons, List.not_mem_nil, or_false] at hu
      rcases hu with rfl | rfl | rfl | rfl | rfl | rfl <;> rfl
    · exact ih u hu
theorem EvAt.at_ {w : World} {b o : Nat} {e : Evt} (h : EvAt w b o e) {k : Nat} {u : Value} (hk : k < 6) (hu : e.c6[k]? = some u) : w.cell? ⟨b, o + k, none⟩ = some u := by
  obtain ⟨h0, h1, h2, h3, h4, h5⟩ := h
  have h6 : k = 0 ∨ k = 1 ∨ k = 2 ∨ k = 3 ∨ k = 4 ∨ k = 5 := by omega
  rcases h6 with rfl | rfl | rfl | rfl | rfl | rfl
  · simp [Evt.c6] at hu; subst hu; exact h0
  · simp [Evt.c6] at hu; subst hu; exact h1
  · simp [Evt.c6] at hu; subst hu; exact h2
  · simp [Evt.c6] at hu; subst hu; exact h3
  · simp [Evt.c6] at hu; subst hu; exact h4
  · simp [Evt.c6] at hu; subst hu; exact h5
theorem Evs.reads {w : World} {A : Option Addr} {n : Nat} {es : List Evt} (h : Evs w A n es) : Reads w w.heap.size 6 A n (flat es) := by
  refine ⟨by rw [flat_len, h.1], fun hn => ?_⟩; obtain ⟨b, off, hA, hb, hc⟩ := h.2 hn; refine ⟨_, hA, hb, fun j u hu => ?_⟩
  have hj : j < (flat es).length := (List.getElem?_eq_some_iff.1 hu).1
  rw [flat_len, h.1] at hj
  have e : j = j / 6 * 6 + j % 6 := by omega
  have hi : j / 6 < n := by omega
  rw [e, flat_get es _ _ (by rw [h.1]; exact hi) (by omega)] at hu
  have := (hc _ hi).at_ (by omega) hu
  have ad : (⟨b, off, none⟩ : Addr).add j = ⟨b, off + j / 6 * 6 + j % 6, none⟩ := by
    unfold Addr.add
    split
    · rename_i h0; subst h0; rfl
    · rw [Nat.add_assoc, ← e]
  rw [ad]
  exact this
theorem own_evs {w : World} {base e n c : Nat} {A : Option Addr} {es : List Evt} (h : w.ownsRow base e 6 (.slice A n c) n (flat es)) : Evs w A n es := by
  have hl : es.length = n := by have := h.1; rw [flat_len] at this; omega
  refine ⟨hl, fun hn => ?_⟩; obtain ⟨g, cap, hv, _, hlt⟩ := h.form hn
  injection hv with hA _ hcap
  subst hA hcap; refine ⟨g, 0, rfl, hlt, fun i hi => ?_⟩
  have f : ∀ k, k < 6 → w.cell? ⟨g, 0 + i * 6 + k, none⟩ = (es.getD i default).c6[k]? := fun k hk => by
    rw [Nat.zero_add, h.cellAt (i * 6 + k) (by omega), flat_get es i k (by omega) hk]
  exact ⟨f 0 (by omega), f 1 (by omega), f 2 (by omega), f 3 (by omega), f 4 (by omega), f 5 (by omega)⟩
theorem Up.grown {a w w' : World} {row : Option Nat} (h : Up a w) (hg : w.grownBy w' row) (hr : ∀ k, row = some k → a.heap.size ≤ k) : Up a w' := Below.grown h hg h.size hr
theorem own_up {w w' : World} {b e size n : Nat} {v : Value} {xs : List Value} (h : w.ownsRow b e size v n xs) (u : Up w w') : w'.ownsRow b e size v n xs :=
  h.kept (row := none) ⟨u.below.os, u.below.tape, u.below.output, u.size, fun k hk _ => u.below.block k hk⟩ (by
    cases hv : v.ownBlock
    · exact .inl rfl
    · exact .inr (by simp))
/-- The new slice that a function hands back. -/
def NewSl (es : List Evt) (w : World) (x : Ending) (w' : World) : Prop :=
  ∃ A c, x = .returned (.slice A es.length c) ∧ es.length ≤ c ∧ c ≤ 9223372036854775807 ∧ Evs w' A es.length es ∧ w'.ownsRow w.heap.size 74 6 (.slice A es.length c) es.length (flat es) ∧ Up w w'
theorem own_slice {w : World} {base e n : Nat} {v : Value} {es : List Evt} (h : w.ownsRow base e 6 v n (flat es)) : n = es.length ∧ ∃ A c, v = .slice A n c ∧ n ≤ c ∧ c ≤ 9223372036854775807 := by
  have hl : es.length = n := by have := h.1; rw [flat_len] at this; omega
  refine ⟨hl.symm, ?_⟩
  rcases h.2 with ⟨rfl, rfl⟩ | ⟨g, cap, cur, rfl, _, _, hnc, hm, _⟩
  · exact ⟨none, 0, rfl, Nat.le_refl _, by omega⟩
  · exact ⟨_, cap, rfl, hnc, by unfold maxLen at hm; omega⟩
theorem NewSl.of_own {w w' : World} {n : Nat} {v : Value} {es : List Evt} (h : w'.ownsRow w.heap.size 74 6 v n (flat es)) (u : Up w w') : NewSl es w (.returned v) w' := by
  obtain ⟨rfl, A, c, rfl, hc, hm⟩ := own_slice h
  exact ⟨A, c, rfl, hc, hm, own_evs h, h, u⟩
end Go.Proofs.Ytklldniapombiaa

namespace Go.Proofs.Ytklldniapombiaa
set_option maxRecDepth 100000
open Go.RowKit
theorem own_own {w : World} {base q c : Nat} {A : Option Addr} {fs : List Evt} (h : w.ownsRow base 74 6 (.slice A q c) q (flat fs)) (hq : 0 < q) : ∃ g, A = some ⟨g, 0, none⟩ ∧ base ≤ g ∧ Own w g q fs := by
  have hl : fs.length = q := by have := h.1; rw [flat_len] at this; omega
  have hE := own_evs h
  rcases h.2 with ⟨_, h0⟩ | ⟨g, cap, cur, hv, hb, hh, _⟩
  · omega
  · injection hv with hA _ _
    subst hA; obtain ⟨b, off, hA, hlt, hc⟩ := hE.2 hq
    injection hA with hA
    injection hA with h1 h2
    subst h1 h2
    exact ⟨g, rfl, hb, hl, hlt, fun i hi => by have := hc i hi; rwa [Nat.zero_add] at this, fun j hj => by unfold World.frozen?; rw [hh]; simp⟩
theorem mark_own (A : Option Addr) (q c : Nat) {base : Nat} {fs : List Evt} (w : World) (hq : q ≤ 1100000) (h : w.ownsRow base 74 6 (.slice A q c) q (flat fs)) :
    Calls Try.prog 32 #[.slice A q c, .int .i64 1] w fun x w' => x = .returned (.int .i64 (1 + 6 * (q : Int))) ∧ Evs w' A q (marks q) ∧ ∃ g, base ≤ g ∧ Mv g w w' := by
  rcases Nat.eq_zero_or_pos q with h0 | h0
  · subst h0
    refine (mark_none A c w).mono ?_; rintro x w' ⟨rfl, u⟩
    exact ⟨rfl, ⟨rfl, fun h => absurd h (by omega)⟩, base, Nat.le_refl _, u.mv base⟩
  · obtain ⟨g, rfl, hb, ho⟩ := own_own h h0
    refine (mark_any g q c w hq (ho.part _)).mono ?_; rintro x w' ⟨rfl, hp, m⟩
    exact ⟨rfl, ⟨marks_len q, fun _ => ⟨g, 0, rfl, hp.1, fun i hi => by rw [Nat.zero_add]; exact hp.2.1 i hi⟩⟩, g, hb, m⟩
end Go.Proofs.Ytklldniapombiaa

namespace Go.Proofs.Ytklldniapombiaa
set_option maxRecDepth 100000
open Go.RowKit
theorem made_cell (w : World) (z : Array Value) (N : Nat) (t : TypeId) (j : Nat) (hj : j < N) : (∃ v, (w.alloc (.cells (madeCells z N) t)).cell? ⟨w.heap.size, j, none⟩ = some v) ∧ (w.alloc (.cells (madeCells z N) t)).frozen? ⟨w.heap.size, j, none⟩ = false := by
  have hh := heap_alloc_new w (.cells (madeCells z N) t)
  refine ⟨?_, ?_⟩
  · rw [cell_of_row _ _ j _ _ _ hh]
    have : j < (madeCells z N).size := by rw [size_madeCells]; exact hj
    exact ⟨_, Array.getElem?_eq_getElem this⟩
  · unfold World.frozen?
    rw [hh]; simp
theorem Part.begin (w : World) (n : Nat) (t : TypeId) (es : List Evt) : Part (w.alloc (.cells (madeCells #[.int .i64 0, .int .i64 0, .int .i64 0, .int .i64 0, .int .i64 0, .int .i64 0] (n * 6)) t)) w.heap.size n 0 es :=
  ⟨by simp, fun i hi => absurd hi (by omega), fun j hj => made_cell w _ _ t j hj⟩
end Go.Proofs.Ytklldniapombiaa

namespace Go.Proofs.Ytklldniapombiaa
set_option maxRecDepth 100000
open Go.RowKit
theorem toSnd_any (e : Evt) (w : World) :
    Calls Try.prog 196 #[e.v] w fun x w' => x = .returned e.v ∧ Up w w' := by
  obtain ⟨et, eto, efr, esq, ekd, edt⟩ := e; unfold Evt.v; dsimp only
  go_enter Try.func196, Try.ntmps196
  go_wp2; refine bodyPost_ret (v := .agg #[.int .i64 et, .int .i64 eto, .int .i64 efr, .int .i64 esq, .int .i64 ekd, .int .i64 edt]) (by simp [results, Try.results196, go_sem]) rfl ⟨rfl, (((Up.refl _).alloc _).alloc _).alloc _⟩
end Go.Proofs.Ytklldniapombiaa

namespace Go.Proofs.Ytklldniapombiaa
set_option maxRecDepth 100000
open Go.RowKit
theorem toEvt_any (e : Evt) (w : World) :
    Calls Try.prog 113 #[e.v] w fun x w' => x = .returned e.v ∧ Up w w' := by
  obtain ⟨et, eto, efr, esq, ekd, edt⟩ := e; unfold Evt.v; dsimp only
  go_enter Try.func113, Try.ntmps113
  go_wp2; refine bodyPost_ret (v := .agg #[.int .i64 et, .int .i64 eto, .int .i64 efr, .int .i64 esq, .int .i64 ekd, .int .i64 edt]) (by simp [results, Try.results113, go_sem]) rfl ⟨rfl, (((Up.refl _).alloc _).alloc _).alloc _⟩
end Go.Proofs.Ytklldniapombiaa

namespace Go.Proofs.Ytklldniapombiaa
set_option maxRecDepth 100000
open Go.RowKit
theorem info74 : (Try.prog.info? 74).map (fun i => (i.zero, i.size, i.bytes)) = some (some (.agg #[.int .i64 0, .int .i64 0, .int .i64 0, .int .i64 0, .int .i64 0, .int .i64 0]), 6, 48) := by kernel_rfl
theorem run_make_rowN {P : Program} (t e : TypeId) (i : TypeInfo) (z : Value) (ht : P.underlying t = some (.slice e)) (hi : P.info? e = some i) (hz : i.zero = some z)
    (kl kc : IntKind) (n c : Nat) (hnc : n ≤ c) (hbytes : i.bytes * c ≤ 281474976710656) (h63 : c ≤ 9223372036854775807) (w : World) :
    (Instr.makeSlice t (.int kl (n : Int)) (.int kc (c : Int))).run P w = .ok (.slice (some ⟨w.heap.size, 0, none⟩) n c) (w.alloc (.cells (madeCells z.cells (c * i.size)) e)) := by
  have hb : (i.bytes : Int) * (c : Int) ≤ 281474976710656 := by
    have h : ((i.bytes * c : Nat) : Int) ≤ 281474976710656 := by omega
    rwa [Int.natCast_mul] at h
  have hr := run_make (P := P) w t e i z ht hi hz kl kc n c (by omega) (by omega) hb (by omega)
  simp only [Int.toNat_natCast] at hr
  exact hr
set_option maxHeartbeats 1000000 in
theorem toS_any (A : Option Addr) (n cap : Nat) (es : List Evt) (w : World) (hn : n ≤ 1000000000) (hE : Evs w A n es) :
    Calls Try.prog 57 #[.slice A n cap] w (NewEvs es n w) := by
  obtain ⟨i0, hi, hz0, hz1, hz2⟩ := info_parts info74
  have hmk := fun W => run_make_rowN (P := Try.prog) 34 74 i0 _ Try.underlying34 hi hz0 .i64 .i64 n n (Nat.le_refl _) (by rw [hz2]; omega) (by omega) W
  rw [hz1] at hmk
  have HE := Lib.hid hE
  have LE := Lib.hid hE.1
  have CL := Lib.hid (fun a W => toEvt_any a W)
  clear hE hi hz0 hz1 hz2
  go_enter Try.func57, Try.ntmps57
  go_wp2
  generalize hg : w.heap.size = g
  have HG := Lib.hid (Nat.le_of_eq hg)
  go_loopw [4] (fun i wr => (∃ k : Nat, k ≤ n ∧ i = .int .i64 k ∧ Part wr g n k es) ∧ Up w wr) (fun i _ => n - (intOf i).toNat)
  case atStart =>
    refine ⟨⟨0, by omega, rfl, ?_⟩, (Up.refl _).alloc _⟩; subst hg
    exact Part.start w n es
  case round =>
    obtain ⟨⟨k, hk, rfl, hp⟩, ur⟩ := hrel
    by_cases hlt : k < n
    · obtain ⟨b, off, hA, hb, hc⟩ := HE.out.2 (by omega)
      subst hA
      have a0 := (hc k hlt).up ur hb
      have hb' : b < wr.heap.size := by have := ur.size; omega
      clear hc
      have cl := CL.out (es.getD k default)
      have HP := Lib.hid hp
      clear hp
      generalize hpk : es.getD k default = p at a0 cl
      obtain ⟨pt, pto, pfr, psq, pkd, pdt⟩ := p
      have HE' := Lib.hid hpk
      clear hpk; unfold EvAt at a0; unfold Evt.v at cl; dsimp only at a0 cl; obtain ⟨p0, p1, p2, p3, p4, p5⟩ := a0
      have C := Lib.hid cl
      clear cl
      have i4 : (k : Int) < n := by omega
      go_wp2_with fail
      refine (C.out _).mono ?_; rintro x wA ⟨rfl, uA⟩
      have P := HP.out.up uA
      obtain ⟨⟨v0, c0⟩, f0⟩ := P.2.2 (k * 6) (by omega); obtain ⟨⟨v1, c1⟩, f1⟩ := P.2.2 (k * 6 + 1) (by omega); obtain ⟨⟨v2, c2⟩, f2⟩ := P.2.2 (k * 6 + 2) (by omega); obtain ⟨⟨v3, c3⟩, f3⟩ := P.2.2 (k * 6 + 3) (by omega); obtain ⟨⟨v4, c4⟩, f4⟩ := P.2.2 (k * 6 + 4) (by omega); obtain ⟨⟨v5, c5⟩, f5⟩ := P.2.2 (k * 6 + 5) (by omega)
      have HP2 := Lib.hid P
      clear P p0 p1 p2 p3 p4 p5; go_wp2
      go_roundw
      case rel =>
        have hq := HP2.out.put HE'.out hlt
        have hu := (ur.trans uA).putEv (b := g) (o := k * 6) (e := ⟨pt, pto, pfr, psq, pkd, pdt⟩) HG.out
        unfold putEv at hq hu
        exact ⟨⟨k + 1, by omega, by go_num, hq⟩, hu⟩
      case measure => simp [intOf]; omega
    · have HP := Lib.hid hp
      clear hp; go_wp2; go_ret
      exact ⟨g, rfl, by omega, HP.out.own LE.out (by omega), ur⟩
end Go.Proofs.Ytklldniapombiaa

namespace Go.Proofs.Ytklldniapombiaa
set_option maxRecDepth 100000
open Go.RowKit
theorem info168 : (Try.prog.info? 168).map (fun i => (i.zero, i.size, i.bytes)) = some (some (.agg #[.int .i64 0, .int .i64 0, .int .i64 0, .int .i64 0, .int .i64 0, .int .i64 0]), 6, 48) := by kernel_rfl
set_option maxHeartbeats 1000000 in
theorem toSndS_any (A : Option Addr) (n cap : Nat) (es : List Evt) (w : World) (hn : n ≤ 1000000000) (hE : Evs w A n es) :
    Calls Try.prog 189 #[.slice A n cap] w (NewEvs es n w) := by
  obtain ⟨i0, hi, hz0, hz1, hz2⟩ := info_parts info168
  have hmk := fun W => run_make_rowN (P := Try.prog) 164 168 i0 _ Try.underlying164 hi hz0 .i64 .i64 n n (Nat.le_refl _) (by rw [hz2]; omega) (by omega) W
  rw [hz1] at hmk
  have HE := Lib.hid hE
  have LE := Lib.hid hE.1
  have CL := Lib.hid (fun a W => toSnd_any a W)
  clear hE hi hz0 hz1 hz2
  go_enter Try.func189, Try.ntmps189
  go_wp2
  generalize hg : w.heap.size = g
  have HG := Lib.hid (Nat.le_of_eq hg)
  go_loopw [4] (fun i wr => (∃ k : Nat, k ≤ n ∧ i = .int .i64 k ∧ Part wr g n k es) ∧ Up w wr) (fun i _ => n - (intOf i).toNat)
  case atStart =>
    refine ⟨⟨0, by omega, rfl, ?_⟩, (Up.refl _).alloc _⟩; subst hg
    exact Part.begin w n _ es
  case round =>
    obtain ⟨⟨k, hk, rfl, hp⟩, ur⟩ := hrel
    by_cases hlt : k < n
    · obtain ⟨b, off, hA, hb, hc⟩ := HE.out.2 (by omega)
      subst hA
      have a0 := (hc k hlt).up ur hb
      have hb' : b < wr.heap.size := by have := ur.size; omega
      clear hc
      have cl := CL.out (es.getD k default)
      have HP := Lib.hid hp
      clear hp
      generalize hpk : es.getD k default = p at a0 cl
      obtain ⟨pt, pto, pfr, psq, pkd, pdt⟩ := p
      have HE' := Lib.hid hpk
      clear hpk; unfold EvAt at a0; unfold Evt.v at cl; dsimp only at a0 cl; obtain ⟨p0, p1, p2, p3, p4, p5⟩ := a0
      have C := Lib.hid cl
      clear cl
      have i4 : (k : Int) < n := by omega
      go_wp2_with fail
      refine (C.out _).mono ?_; rintro x wA ⟨rfl, uA⟩
      have P := HP.out.up uA
      obtain ⟨⟨v0, c0⟩, f0⟩ := P.2.2 (k * 6) (by omega); obtain ⟨⟨v1, c1⟩, f1⟩ := P.2.2 (k * 6 + 1) (by omega); obtain ⟨⟨v2, c2⟩, f2⟩ := P.2.2 (k * 6 + 2) (by omega); obtain ⟨⟨v3, c3⟩, f3⟩ := P.2.2 (k * 6 + 3) (by omega); obtain ⟨⟨v4, c4⟩, f4⟩ := P.2.2 (k * 6 + 4) (by omega); obtain ⟨⟨v5, c5⟩, f5⟩ := P.2.2 (k * 6 + 5) (by omega)
      have HP2 := Lib.hid P
      clear P p0 p1 p2 p3 p4 p5; go_wp2
      go_roundw
      case rel =>
        have hq := HP2.out.put HE'.out hlt
        have hu := (ur.trans uA).putEv (b := g) (o := k * 6) (e := ⟨pt, pto, pfr, psq, pkd, pdt⟩) HG.out
        unfold putEv at hq hu
        exact ⟨⟨k + 1, by omega, by go_num, hq⟩, hu⟩
      case measure => simp [intOf]; omega
    · have HP := Lib.hid hp
      clear hp; go_wp2; go_ret
      exact ⟨g, rfl, by omega, HP.out.own LE.out (by omega), ur⟩
end Go.Proofs.Ytklldniapombiaa

namespace Go.Proofs.Ytklldniapombiaa
set_option maxRecDepth 100000
open Go.RowKit
set_option maxHeartbeats 4000000 in
theorem implRule_any (r : Rule) (A : Option Addr) (n c : Nat) (many : Int) (hm1 : 1 ≤ many) (hm2 : many ≤ 4) (w : World) (hn : n ≤ 9223372036854775807) (hE : Evs w A n r.sends) :
    Calls Try.prog 179 #[r.v (.slice A n c), .int .i64 many] w fun x w' => x = .returned (.bool (ruleB r many)) ∧ Up w w' := by
  obtain ⟨kd, ra, rb, rc, es⟩ := r
  have AD := Lib.hid (fun k h => all_drop (f := fun e => sndB e many) (d := default) es k h)
  have AE := Lib.hid (fun k h => all_end (f := fun e => sndB e many) es k h)
  have HE := Lib.hid hE
  have LE := Lib.hid hE.1
  have CL := Lib.hid (fun e W => implSnd_any e many hm1 hm2 W)
  have RB := Lib.hid (show ruleB ⟨kd, ra, rb, rc, es⟩ many = (es.all (fun e => sndB e many) && decide ((n : Int) ≤ 2) && inB kd 0 2 && inB ra 0 96 && inB rb 0 96 && inB rc 0 96) by rw [← hE.1]; rfl)
  have H0 := Lib.hid (show (es.drop 0).all (fun e => sndB e many) = es.all (fun e => sndB e many) from rfl)
  generalize ruleB ⟨kd, ra, rb, rc, es⟩ many = res at RB ⊢
  generalize es.all (fun e => sndB e many) = al at RB H0
  clear hE; unfold Rule.v; dsimp only
  go_enter Try.func179, Try.ntmps179
  go_wp2
  go_loopw [10] (fun i wr => (∃ k : Nat, k ≤ n ∧ i = .int .i64 k ∧ Hid ((es.drop k).all (fun e => sndB e many) = al)) ∧ Up (w.alloc (.cells #[.int .i64 kd, .int .i64 ra, .int .i64 rb, .int .i64 rc, .slice A n c] 166)) wr) (fun i _ => n - (intOf i).toNat)
  case atStart => exact ⟨⟨0, by omega, rfl, H0⟩, Up.refl _⟩
  case round =>
    obtain ⟨⟨k, hk, rfl, HA⟩, ur⟩ := hrel
    have hw : Up w wr := ((Up.refl w).alloc _).trans ur
    by_cases hlt : k < n
    · obtain ⟨b, off, hA, hb, hc⟩ := HE.out.2 (by omega)
      subst hA
      have a0 := (hc k hlt).up hw hb
      have hb' : b < wr.heap.size := by have := hw.size; omega
      clear hc
      have S := AD.out k (by rw [LE.out]; exact hlt)
      rw [HA.out] at S
      have cl := CL.out (es.getD k default)
      generalize es.getD k default = e at a0 S cl
      generalize sndB e many = s at S cl
      obtain ⟨et, eto, efr, esq, ekd, edt⟩ := e; unfold EvAt at a0; unfold Evt.v at cl; dsimp only at a0 cl; obtain ⟨p0, p1, p2, p3, p4, p5⟩ := a0
      have C := Lib.hid cl
      have S' := Lib.hid S
      have UR := Lib.hid ur
      clear cl S hw ur
      have i4 : (k : Int) < n := by omega
      have i5 : IntKind.i64.wrap ((k : Int) + 1) = (k : Int) + 1 := IntWalk.i64_in _ (by omega)
      go_wp2_with fail
      refine (C.out _).mono ?_; rintro x w2 ⟨rfl, u2⟩
      have U2 := Lib.hid ((UR.out.alloc _).trans u2)
      clear u2
      cases s
      · go_wp2
        go_ret
        exact ⟨ret_bool (by rw [RB.out, S'.out]; rfl), ((Up.refl w).alloc _).trans U2.out⟩
      · go_wp2
        go_roundw
        case rel => exact ⟨⟨k + 1, by omega, by first | rfl | go_num, Lib.hid (by rw [S'.out, Bool.true_and])⟩, U2.out⟩
        case measure => (simp [intOf]; try omega)
    · have hal : al = true := HA.out.symm.trans (AE.out k (by rw [LE.out]; omega))
      have RB2 := Lib.hid (hal ▸ RB.out)
      have HW := Lib.hid hw
      obtain ⟨hc, hf, hz⟩ := ur.facts; simp at hz; clear hw hal RB HA AD AE CL HE LE H0
      have i4 : ¬ (k : Int) < n := by omega
      go_wp2_with (go_at_call 73; refine (within_any _ _ _ _).mono ?_; rintro e w' ⟨rfl, rfl⟩)
      all_goals go_ret
      all_goals exact ⟨ret_bool (by rw [RB2.out]; first | (simp [*]; done) | (simp [*]; intros; omega)), HW.out⟩
end Go.Proofs.Ytklldniapombiaa

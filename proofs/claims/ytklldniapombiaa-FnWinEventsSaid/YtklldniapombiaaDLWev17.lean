/-
  Component states in a row of the call's own, in one sentence: their cells one behind the other, and what is read off again; for every list.
  Records in a row of the call's own, in one sentence: their cells one behind the other, and what is read off again; for every list.
  What append to an empty literal gives, in one sentence: the elements in a block of the call's own, and all that was there is as it was; for every slice that lies in memory.
  What slices.Grow returns of nothing, in one sentence: an empty slice of events with room; for every number that lies in memory.
  What slices.Concat returns of slices of events, in one sentence: a new slice of all of them, one behind the other; for every row of slices that lies in memory.
  What Concat of one and of two slices of events gives, in one sentence: their elements in a new slice; for slices that lie in memory.
-/
import Derived.Lib.AppendZeros
import Derived.Test.YtklldniapombiaaDLWev02
import Derived.Test.YtklldniapombiaaDLWev03
import Derived.Test.YtklldniapombiaaDLWev16
namespace Go.Proofs.Ytklldniapombiaa
set_option maxRecDepth 100000
open Go.RowKit
def Cst.c3 (r : Cst) : List Value := [.int .i64 r.s, .int .i64 r.sq, .int .i64 r.ct]
def flat3 : List Cst → List Value
  | [] => []
  | e :: r => e.c3 ++ flat3 r
theorem flat3_len : ∀ es : List Cst, (flat3 es).length = es.length * 3
  | [] => rfl
  | e :: r => by
    rw [flat3, List.length_append, flat3_len r]; simp [Cst.c3]
    omega
theorem flat3_app : ∀ es fs : List Cst, flat3 (es ++ fs) = flat3 es ++ flat3 fs
  | [], _ => rfl
  | e :: r, fs => by rw [List.cons_append, flat3, flat3_app r fs, flat3, List.append_assoc]
theorem flat3_get : ∀ (es : List Cst) (i k : Nat), i < es.length → k < 3 → (flat3 es)[i * 3 + k]? = (es.getD i default).c3[k]?
  | [], i, _, hi, _ => absurd hi (by simp)
  | e :: r, 0, k, _, hk => by
    rw [flat3, Nat.zero_mul, Nat.zero_add, List.getElem?_append_left (by simpa [Cst.c3] using hk)]
    rfl
  | e :: r, i + 1, k, hi, hk => by
    have hl : e.c3.length = 3 := rfl
    rw [flat3, List.getElem?_append_right (by omega), hl, show (i + 1) * 3 + k - 3 = i * 3 + k by omega, flat3_get r i k (by simpa using hi) hk]
    rfl
theorem flat3_one (es : List Cst) : ∀ u ∈ flat3 es, u.oneCell' = true := by
  induction es with
  | nil => intro u hu; cases hu
  | cons e r ih =>
    intro u hu; rw [flat3, List.mem_append] at hu
    rcases hu with hu | hu
    · simp only [Cst.c3, List.mem_cons, List.not_mem_nil, or_false] at hu
      rcases hu with rfl | rfl | rfl <;> rfl
    · exact ih u hu
theorem own3_csts {w : World} {base e n c : Nat} {A : Option Addr} {es : List Cst} (h : w.ownsRow base e 3 (.slice A n c) n (flat3 es)) : Csts w A n es := by
  have hl : es.length = n := by have := h.1; rw [flat3_len] at this; omega
  refine ⟨hl, fun hn => ?_⟩; obtain ⟨g, cap, hv, _, hlt⟩ := h.form hn
  injection hv with hA _ hcap
  subst hA hcap; refine ⟨g, 0, rfl, hlt, fun i hi => ?_⟩
  have f : ∀ k, k < 3 → w.cell? ⟨g, 0 + i * 3 + k, none⟩ = (es.getD i default).c3[k]? := fun k hk => by
    rw [Nat.zero_add, h.cellAt (i * 3 + k) (by omega), flat3_get es i k (by omega) hk]
  exact ⟨f 0 (by omega), f 1 (by omega), f 2 (by omega)⟩
theorem own3_slice {w : World} {base e n : Nat} {v : Value} {es : List Cst} (h : w.ownsRow base e 3 v n (flat3 es)) : n = es.length ∧ ∃ A c, v = .slice A n c ∧ n ≤ c ∧ c ≤ 9223372036854775807 := by
  have hl : es.length = n := by have := h.1; rw [flat3_len] at this; omega
  refine ⟨hl.symm, ?_⟩
  rcases h.2 with ⟨rfl, rfl⟩ | ⟨g, cap, cur, rfl, _, _, hnc, hm, _⟩
  · exact ⟨none, 0, rfl, Nat.le_refl _, by omega⟩
  · exact ⟨_, cap, rfl, hnc, by unfold maxLen at hm; omega⟩
theorem CstAt.at3 {w : World} {b o k : Nat} {r : Cst} {u : Value} (h : CstAt w b o r) (hk : k < 3) (hu : r.c3[k]? = some u) : w.cell? ⟨b, o + k, none⟩ = some u := by
  obtain ⟨h0, h1, h2⟩ := h
  have e : k = 0 ∨ k = 1 ∨ k = 2 := by omega
  rcases e with rfl | rfl | rfl
  · exact h0.trans hu
  · exact h1.trans hu
  · exact h2.trans hu
theorem Csts.reads {w : World} {A : Option Addr} {n : Nat} {es : List Cst} (h : Csts w A n es) : Reads w w.heap.size 3 A n (flat3 es) := by
  refine ⟨by rw [flat3_len, h.1], fun hn => ?_⟩; obtain ⟨b, off, hA, hb, hc⟩ := h.2 hn; refine ⟨_, hA, hb, fun j u hu => ?_⟩
  have hj : j < (flat3 es).length := (List.getElem?_eq_some_iff.1 hu).1
  rw [flat3_len, h.1] at hj
  have e : j = j / 3 * 3 + j % 3 := by omega
  have hi : j / 3 < n := by omega
  rw [e, flat3_get es _ _ (by rw [h.1]; exact hi) (by omega)] at hu
  have := (hc _ hi).at3 (by omega) hu
  have ad : (⟨b, off, none⟩ : Addr).add j = ⟨b, off + j / 3 * 3 + j % 3, none⟩ := by
    unfold Addr.add
    split
    · rename_i h0; subst h0; rfl
    · rw [Nat.add_assoc, ← e]
  rw [ad]
  exact this
end Go.Proofs.Ytklldniapombiaa

namespace Go.Proofs.Ytklldniapombiaa
set_option maxRecDepth 100000
open Go.RowKit
def Rec.c7 (r : Rec) : List Value := [.int .i64 r.ev.t, .int .i64 r.ev.to, .int .i64 r.ev.fr, .int .i64 r.ev.sq, .int .i64 r.ev.kd, .int .i64 r.ev.dt, .int .i64 r.s]
def flat7 : List Rec → List Value
  | [] => []
  | e :: r => e.c7 ++ flat7 r
theorem flat7_len : ∀ es : List Rec, (flat7 es).length = es.length * 7
  | [] => rfl
  | e :: r => by
    rw [flat7, List.length_append, flat7_len r]; simp [Rec.c7]
    omega
theorem flat7_app : ∀ es fs : List Rec, flat7 (es ++ fs) = flat7 es ++ flat7 fs
  | [], _ => rfl
  | e :: r, fs => by rw [List.cons_append, flat7, flat7_app r fs, flat7, List.append_assoc]
theorem flat7_get : ∀ (es : List Rec) (i k : Nat), i < es.length → k < 7 → (flat7 es)[i * 7 + k]? = (es.getD i default).c7[k]?
  | [], i, _, hi, _ => absurd hi (by simp)
  | e :: r, 0, k, _, hk => by
    rw [flat7, Nat.zero_mul, Nat.zero_add, List.getElem?_append_left (by simpa [Rec.c7] using hk)]
    rfl
  | e :: r, i + 1, k, hi, hk => by
    have hl : e.c7.length = 7 := rfl
    rw [flat7, List.getElem?_append_right (by omega), hl, show (i + 1) * 7 + k - 7 = i * 7 + k by omega, flat7_get r i k (by simpa using hi) hk]
    rfl
theorem flat7_one (es : List Rec) : ∀ u ∈ flat7 es, u.oneCell' = true := by
  induction es with
  | nil => intro u hu; cases hu
  | cons e r ih =>
    intro u hu; rw [flat7, List.mem_append] at hu
    rcases hu with hu | hu
    · simp only [Rec.c7, List.mem_cons, List.not_mem_nil, or_false] at hu
      rcases hu with rfl | rfl | rfl | rfl | rfl | rfl | rfl <;> rfl
    · exact ih u hu
theorem own7_recs {w : World} {base e n c : Nat} {A : Option Addr} {es : List Rec} (h : w.ownsRow base e 7 (.slice A n c) n (flat7 es)) : Recs w A n es := by
  have hl : es.length = n := by have := h.1; rw [flat7_len] at this; omega
  refine ⟨hl, fun hn => ?_⟩; obtain ⟨g, cap, hv, _, hlt⟩ := h.form hn
  injection hv with hA _ hcap
  subst hA hcap; refine ⟨g, 0, rfl, hlt, fun i hi => ?_⟩
  have f : ∀ k, k < 7 → w.cell? ⟨g, 0 + i * 7 + k, none⟩ = (es.getD i default).c7[k]? := fun k hk => by
    rw [Nat.zero_add, h.cellAt (i * 7 + k) (by omega), flat7_get es i k (by omega) hk]
  exact ⟨f 0 (by omega), f 1 (by omega), f 2 (by omega), f 3 (by omega), f 4 (by omega), f 5 (by omega), f 6 (by omega)⟩
theorem own7_slice {w : World} {base e n : Nat} {v : Value} {es : List Rec} (h : w.ownsRow base e 7 v n (flat7 es)) : n = es.length ∧ ∃ A c, v = .slice A n c ∧ n ≤ c ∧ c ≤ 9223372036854775807 := by
  have hl : es.length = n := by have := h.1; rw [flat7_len] at this; omega
  refine ⟨hl.symm, ?_⟩
  rcases h.2 with ⟨rfl, rfl⟩ | ⟨g, cap, cur, rfl, _, _, hnc, hm, _⟩
  · exact ⟨none, 0, rfl, Nat.le_refl _, by omega⟩
  · exact ⟨_, cap, rfl, hnc, by unfold maxLen at hm; omega⟩
end Go.Proofs.Ytklldniapombiaa

namespace Go.Proofs.Ytklldniapombiaa
set_option maxRecDepth 100000
open Go.RowKit
section
variable {P : Program} (w : World)
theorem run_append_lit (base : Nat) (t ty e : TypeId) (i : TypeInfo) (z : Value) (size bytes : Nat) (ht : P.underlying t = some (.slice e)) (hi : P.info? e = some i) (hz : i.zero = some z)
    (hsize : i.size = size) (hby : i.bytes = bytes) (hzs : z.cells.size = size) (hsz : 0 < size)
    (g : Nat) (hown : w.ownsRow base e size (.slice (some ⟨g, 0, none⟩) 0 0) 0 [])
    (B : Nat) (A : Option Addr) (m c : Nat) (news : List Value) (hr : Reads w B size A m news) (h1 : ∀ u ∈ news, u.oneCell' = true)
    (h63 : m ≤ maxLen) (hbytes : m * bytes ≤ 140737488355328) (hbase : base ≤ w.heap.size) :
    ∃ v' w', (Builtin.append_ #[t, t] ty #[.slice (some ⟨g, 0, none⟩) 0 0, .slice A m c]).run P w = .ok v' w' ∧ w'.ownsRow base e size v' m news ∧ Up w w' := by
  obtain ⟨v', w', hrun, ho, hg, hv⟩ := run_append_any (P := P) w base t ty e i z size bytes ht hi hz hsize hby hzs hsz (.slice (some ⟨g, 0, none⟩) 0 0) 0 [] hown B A m c news hr h1 (by omega) (by rw [Nat.zero_add]; exact hbytes) hbase; rw [Nat.zero_add, List.nil_append] at ho; refine ⟨v', w', hrun, ho, ⟨hg.os, hg.tape, hg.output, hg.size, fun k hk => ?_⟩⟩
  by_cases hkg : k = g
  · subst hkg
    rcases hown.2 with ⟨h, _⟩ | ⟨g', cap, cur, hv2, _, hh, _, _, hcs, _⟩
    · cases h
    · injection hv2 with hA hn hc
      injection hA with hA
      injection hA with hA _ _
      subst hA hc
      have hcur : cur = #[] := by
        apply Array.eq_empty_of_size_eq_zero; rw [hcs, Nat.zero_mul]
      subst hcur
      rcases Nat.eq_zero_or_pos m with hm | hm
      · subst hm
        have hn0 : news = [] := List.eq_nil_of_length_eq_zero (by have := hr.1; simpa using this)
        subst hn0
        rcases A with _ | ad
        · rw [run_append_of_nil (P := P) w base t ty e i size ht hi _ 0 [] hown c] at hrun
          injection hrun with _ hw
          rw [← hw]
        · have hroom := run_append_room (P := P) (w := w) t ty e i ht hi k 0 0 #[] hh ad 0 c [] (by simp) (by simp) (by simp) (by omega) (by simp)
          rw [hroom] at hrun
          injection hrun with _ hw
          rw [← hw, setRow_heap w k #[] _ e _ hh, hh]; simp
      · obtain ⟨ad, rfl, _, hcells⟩ := hr.2 hm
        have hgrow := run_append_grow (P := P) (w := w) t ty e i z ht hi hz ⟨k, 0, none⟩ 0 0 [] (by simp) (by simp) ad m c news (by rw [hsize]; exact hr.1) (fun j v hj => hcells j v hj) (by omega) (by simp only [maxLen] at h63; omega) (growslice_fits (by omega) (by rw [hby, Nat.zero_add]; exact hbytes))
        rw [hgrow] at hrun
        injection hrun with _ hw
        rw [← hw]
        exact heap_alloc_old w.drew _ (by simpa using hk)
  · exact hg.block k hk (fun e => hkg (by simpa [Value.ownBlock] using e))
theorem wp_append_lit {o : Oper} {a : Act} {K : Act → World → Prop} {Q : Exit → Act → World → Prop} (s x : Operand) (t : TypeId)
    (ho : o.op = .call { callee := .builtin .append, args := #[s, x], argTypes := #[t, t] })
    (base : Nat) (e : TypeId) (i : TypeInfo) (z : Value) (size bytes : Nat) (ht : P.underlying t = some (.slice e)) (hi : P.info? e = some i) (hz : i.zero = some z)
    (hsize : i.size = size) (hby : i.bytes = bytes) (hzs : z.cells.size = size) (hsz : 0 < size)
    (g : Nat) (hs : a.eval s = .slice (some ⟨g, 0, none⟩) 0 0) (hown : w.ownsRow base e size (.slice (some ⟨g, 0, none⟩) 0 0) 0 [])
    (B : Nat) (A : Option Addr) (m c : Nat) (news : List Value) (hx : a.eval x = .slice A m c) (hr : Reads w B size A m news) (h1 : ∀ u ∈ news, u.oneCell' = true)
    (h63 : m ≤ maxLen) (hbytes : m * bytes ≤ 140737488355328) (hbase : base ≤ w.heap.size)
    (h : ∀ v' w', w'.ownsRow base e size v' m news → Up w w' → K (a.put o.dst v') w') : o.wp P a w K Q := by
  obtain ⟨v', w', hrun, h2, h3⟩ := run_append_lit (P := P) w base t o.type e i z size bytes ht hi hz hsize hby hzs hsz g hown B A m c news hr h1 h63 hbytes hbase; unfold Oper.wp execOp; simp only [ho, resolve, invoke, builtin, Sem.run_bind, Sem.run_pure, Result.andThen_ok, List.map_toArray, List.map_cons, List.map_nil, hs, hx, hrun]
  exact h v' w' h2 h3
end
end Go.Proofs.Ytklldniapombiaa

namespace Go.Proofs.Ytklldniapombiaa
set_option maxRecDepth 100000
open Go.RowKit
def GrownSl (w : World) (x : Ending) (w' : World) : Prop := ∃ v, x = .returned v ∧ w'.ownsRow w.heap.size 74 6 v 0 (flat []) ∧ Up w w'
theorem zeros_size (z : Array Value) (n : Nat) : (Builtin.zeroCells z n).size = n * z.size := by simp [Builtin.zeroCells]
set_option maxHeartbeats 4000000 in
theorem grow_any (n : Nat) (w : World) (hn : n ≤ 2000000000) : Calls Try.prog 167 #[.slice none 0 0, .int .i64 n] w (GrownSl w) := by
  obtain ⟨i0, hi0, hz0, hz1, hz2⟩ := info_parts info74
  have INF := Lib.hid (And.intro hi0 (And.intro hz0 (And.intro hz1 hz2)))
  clear hi0 hz0 hz1 hz2
  by_cases h0 : n = 0
  · subst h0
    go_enter Try.func167, Try.ntmps167
    go_wp2; go_ret
    exact ⟨_, rfl, ⟨rfl, .inl ⟨rfl, rfl⟩⟩, Up.refl _⟩
  · have p0 : 0 < n := by omega
    have p1 : (0 : Int) < n := by omega
    have p2 : ¬ (n : Int) < 0 := by omega
    have h48 : n * i0.bytes ≤ 281474976710656 := by rw [INF.out.2.2.2]; omega
    have RUN := Lib.hid (fun ty W => Lib.run_append_nil_zeros (P := Try.prog) W 34 3 ty 74 i0 _ .i64 .i64 Try.underlying34 Try.underlying3 INF.out.1 INF.out.2.1 n p0 (by rw [INF.out.2.2.1]; omega) (by omega) h48)
    clear h48
    go_enter Try.func167, Try.ntmps167
    go_wp2_with (at_builtin; refine Lib.wpList_append_run _ rfl (.tmp 20) (.tmp 21) 34 3 rfl _ _ rfl rfl _ _ (RUN.out _ _) ?_)
    go_ret; refine ⟨_, rfl, ⟨rfl, .inr ⟨w.heap.size, grownCap w n 0 74, _, rfl, Nat.le_refl _, heap_alloc_new w.drew _, Nat.zero_le _, grownCap_le_maxLen _ _ _ _ (by simp only [maxLen]; omega), ?_, rfl⟩⟩, (Up.refl w).drew.alloc _⟩
    have := grownCap_ge w n 0 74
    rw [Array.size_append, zeros_size, zeros_size]; simp
    omega
end Go.Proofs.Ytklldniapombiaa

namespace Go.Proofs.Ytklldniapombiaa
set_option maxRecDepth 100000
open Go.RowKit
/-- The block b holds one slice for each list. -/
def Parts (w : World) (b : Nat) (L : List (List Evt)) : Prop :=
  ∀ j, j < L.length → ∃ A c, w.cell? ⟨b, j, none⟩ = some (.slice A (L.getD j []).length c) ∧ Evs w A (L.getD j []).length (L.getD j [])
theorem flat_step (L : List (List Evt)) (k : Nat) (h : k < L.length) : (L.take (k + 1)).flatten = (L.take k).flatten ++ L.getD k [] := by
  rw [List.take_succ_eq_append_getElem h, List.flatten_append]; simp [h]
theorem flat_le (L : List (List Evt)) (k : Nat) : (L.take k).flatten.length ≤ L.flatten.length := by
  have : L.flatten = (L.take k).flatten ++ (L.drop k).flatten := by rw [← List.flatten_append, List.take_append_drop]
  rw [this, List.length_append]
  omega
theorem flat_end (L : List (List Evt)) (k : Nat) (h : L.length ≤ k) : (L.take k).flatten = L.flatten := by rw [List.take_of_length_le h]
set_option maxHeartbeats 4000000 in
theorem concat_any (b cap : Nat) (L : List (List Evt)) (w : World) (hL : L.length ≤ 1000000) (hb : b < w.heap.size) (hP : Parts w b L) (hT : L.flatten.length ≤ 1000000000) :
    Calls Try.prog 130 #[.slice (some ⟨b, 0, none⟩) L.length cap] w (NewSl L.flatten w) := by
  obtain ⟨i0, hi0, hz0, hz1, hz2⟩ := info_parts info74
  have INF := Lib.hid (And.intro hi0 (And.intro hz0 (And.intro hz1 hz2)))
  have SIX := Lib.hid (show 0 < 6 by omega)
  have HP := Lib.hid hP
  have FS := Lib.hid (flat_step L)
  have FL := Lib.hid (flat_le L)
  have FE := Lib.hid (flat_end L)
  have HT := Lib.hid hT
  clear hi0 hz0 hz1 hz2 hP hT
  go_enter Try.func130, Try.ntmps130
  go_wp2
  go_loopw [3, 11] (fun s i wr => (∃ k : Nat, k ≤ L.length ∧ i = .int .i64 k ∧ s = .int .i64 ((L.take k).flatten.length : Nat)) ∧ Up w wr) (fun _ i _ => L.length - (intOf i).toNat)
  case atStart => exact ⟨⟨0, by omega, rfl, rfl⟩, Up.refl _⟩
  case round =>
    obtain ⟨⟨k, hk, rfl, rfl⟩, ur⟩ := hrel
    by_cases hlt : k < L.length
    · obtain ⟨A, c, hcell, _⟩ := HP.out k hlt
      have cell' := (ur.cells b k hb).trans hcell
      clear hcell
      have st := congrArg List.length (FS.out k hlt)
      rw [List.length_append] at st
      have le := FL.out (k + 1)
      have ht := HT.out
      generalize (L.getD k []).length = m at st cell'
      generalize hs2 : (L.take (k + 1)).flatten.length = s2 at st le
      have HS2 := Lib.hid hs2
      clear hs2
      generalize (L.take k).flatten.length = s at st
      have ST := Lib.hid st
      have sm : s + m ≤ 1000000000 := by omega
      clear st le ht
      have i3 : (k : Int) < L.length := by omega
      have i4 : IntKind.i64.wrap ((s : Int) + m) = (s : Int) + m := IntWalk.i64_in _ (by omega)
      have i5 : ¬ (s : Int) + m < 0 := by omega
      have hb' : b < wr.heap.size := by have := ur.size; omega
      go_wp2
      go_roundw
      case rel => exact ⟨⟨k + 1, by omega, by go_num, by rw [HS2.out, ST.out]; simp⟩, ur⟩
      case measure => simp [intOf]; omega
    · have i3 : ¬ (k : Int) < L.length := by omega
      rw [FE.out k (by omega)]
      have ht := HT.out
      generalize hN : L.flatten.length = N at ht
      have HN := Lib.hid hN
      clear hN
      go_wp2_with fail
      refine (grow_any N _ (by omega)).mono ?_; rintro x w1 ⟨v1, rfl, o1, u1⟩
      have O1 := Lib.hid (own_mono o1 ur.size)
      have U1 := Lib.hid (ur.trans u1)
      clear o1 u1 ur i3 hk ht
      go_wp2_with fail
      go_loopw [6, 27] (fun v i wr => (∃ k : Nat, k ≤ L.length ∧ i = .int .i64 k ∧ wr.ownsRow w.heap.size 74 6 v (L.take k).flatten.length (flat (L.take k).flatten)) ∧ Up w wr) (fun _ i _ => L.length - (intOf i).toNat)
      case atStart => exact ⟨⟨0, by omega, rfl, O1.out⟩, U1.out⟩
      case round =>
        obtain ⟨⟨k, hk, rfl, ho⟩, ur⟩ := hrel
        have HO := Lib.hid ho
        clear ho U1
        by_cases hlt : k < L.length
        · obtain ⟨A, c, hcell, hev⟩ := HP.out k hlt
          have cell' := (ur.cells b k hb).trans hcell
          have RD := Lib.hid (hev.up ur).reads
          clear hcell hev
          have fk := FS.out k hlt
          have st := congrArg List.length (FS.out k hlt)
          rw [List.length_append] at st
          generalize L.getD k [] = es at cell' RD fk st
          have FK := Lib.hid fk
          clear fk
          have ht := HT.out
          have le := FL.out (k + 1)
          have HMX := Lib.hid (show (L.take k).flatten.length + es.length ≤ maxLen by simp only [maxLen]; omega)
          have HBY := Lib.hid (show ((L.take k).flatten.length + es.length) * 48 ≤ 140737488355328 by omega)
          have HBS := Lib.hid ur.size
          have ST := Lib.hid st
          clear st ht le
          have i3 : (k : Int) < L.length := by omega
          have hb' : b < wr.heap.size := by have := HBS.out; omega
          go_wp2_with (at_builtin; refine wpList_append_any _ rfl (.tmp 31) (.tmp 32) 34 rfl w.heap.size 74 i0 _ 6 48 Try.underlying34 INF.out.1 INF.out.2.1 INF.out.2.2.1 INF.out.2.2.2 rfl SIX.out _ _ _ rfl HO.out _ _ _ _ (flat es) rfl RD.out (flat_one _) HMX.out HBY.out HBS.out ?_; intro v2 w2 ho2 hg2 _)
          have HO2 := Lib.hid ho2
          have HG2 := Lib.hid hg2
          clear ho2 hg2
          go_roundw
          case rel => exact ⟨⟨k + 1, by omega, by go_num, by rw [FK.out, flat_app, List.length_append]; exact HO2.out⟩, ur.grown HG2.out (fun j hj => (HO.out.lt j hj).1)⟩
          case measure => simp [intOf]; omega
        · have i3 : ¬ (k : Int) < L.length := by omega
          have HO2 := Lib.hid (show wr.ownsRow w.heap.size 74 6 _ L.flatten.length (flat L.flatten) from FE.out k (by omega) ▸ HO.out)
          go_wp2; go_ret
          exact NewSl.of_own HO2.out ur
end Go.Proofs.Ytklldniapombiaa

namespace Go.Proofs.Ytklldniapombiaa
set_option maxRecDepth 100000
open Go.RowKit
theorem concat2 (A1 : Option Addr) (n1 c1 : Nat) (es1 : List Evt) (A2 : Option Addr) (n2 c2 : Nat) (es2 : List Evt) (W : World) (h1 : Evs W A1 n1 es1) (h2 : Evs W A2 n2 es2) (hT : n1 + n2 ≤ 1000000000) :
    Calls Try.prog 130 #[.slice (some ⟨W.heap.size, 0, none⟩) 2 2] (W.alloc (.cells #[.slice A1 n1 c1, .slice A2 n2 c2] 34)) (NewSl (es1 ++ es2) (W.alloc (.cells #[.slice A1 n1 c1, .slice A2 n2 c2] 34))) := by
  obtain rfl := h1.1; obtain rfl := h2.1
  have hh := heap_alloc_new W (.cells #[.slice A1 es1.length c1, .slice A2 es2.length c2] 34)
  have := concat_any W.heap.size 2 [es1, es2] (W.alloc (.cells #[.slice A1 es1.length c1, .slice A2 es2.length c2] 34)) (by simp) (by simp) (fun j hj => by
    have h : j = 0 ∨ j = 1 := by simp at hj; omega
    rcases h with rfl | rfl
    · exact ⟨A1, c1, by rw [cell_of_row _ _ 0 _ _ _ hh]; rfl, h1.up ((Up.refl W).alloc _)⟩
    · exact ⟨A2, c2, by rw [cell_of_row _ _ 1 _ _ _ hh]; rfl, h2.up ((Up.refl W).alloc _)⟩) (by simpa using hT)
  simpa using this
end Go.Proofs.Ytklldniapombiaa

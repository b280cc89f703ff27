/-
  What spec.RevOk returns, in one sentence: whether the model is valid, the component exists, and a is not 0 in all its rules; for every model that lies in memory and every number.
  What append to an empty literal gives, in one sentence: the elements in a block of the call's own, and all that was there is as it was; for every slice that lies in memory.
  Appending zeros onto a row of the call's own, in one sentence: a longer slice, other blocks as they were; and appending onto an empty literal as a step of a list.
  A model's rows as a list of slices that can be copied, in one sentence: what stands in the row's cells; and an empty literal of any element.
  A step that makes blocks and may lay one given row behind the first ones of a new row of rules, in one sentence: what it keeps; and the append that is such a step.
  A component's rules as a list of cells that can be copied, in one sentence: what stands in the cells, the first rule laid behind them once more, and the rules read off again.
  A row of a model's copied rows laid anew, in one sentence: the rows are the model's with that one put in its place.
  What undo returns, in one sentence: the component ahead of an event and true, or the zero state and false; for a machine that holds a valid model's rules and a valid component.
  What FnRevOk returns, in one sentence: true, with new blocks alone; for every code.
-/
import Derived.Deep.Cut
import Derived.Lib.AppendZerosOnto
import Derived.Test.YtakmlfgkppekoaaDLRok02
import Derived.Test.YtakmlfgkppekoaaDLRok03
import Derived.Test.YtakmlfgkppekoaaDLRok05
import Derived.Test.YtakmlfgkppekoaaDLRok08
import Derived.Test.YtakmlfgkppekoaaDLRok10
import Derived.Test.YtakmlfgkppekoaaDLRok13
import Derived.Test.YtakmlfgkppekoaaDLRok14
import Derived.Test.YtakmlfgkppekoaaDLRok16
import Derived.Test.YtakmlfgkppekoaaDLRok17
namespace Go.Proofs.Ytakmlfgkppekoaa
set_option maxRecDepth 100000
open Go.RowKit
theorem l1In_upR (v lo hi : Int) (W : World) : Calls Try.prog 64 #[.int .i64 v, .int .i64 lo, .int .i64 hi] W fun x w' => x = .returned (.bool (inB v lo hi)) ∧ w' = W :=
  (l1In_any v lo hi W).mono (by rintro x w' ⟨rfl, rfl⟩; exact ⟨rfl, rfl⟩)
set_option maxHeartbeats 4000000 in
theorem specRok_any (A : Option Addr) (n c : Nat) (B : Option Addr) (k d : Nat) (m : Mdl) (co : Int) (w : World) (h : MdlV w A n B k m) :
    Calls Try.prog 19 #[.agg #[.slice A n c, .slice B k d, .int .i64 m.til], .int .i64 co] w fun x w' => x = .returned (.bool (revOkV m co)) ∧ Up w w' := by
  have CM := Lib.hid (fun W (u : Up w W) => specMdl_any A n c B k d m W (h.up u))
  have CF := Lib.hid (fun W => l1In_upR co 0 ((n : Int) - 1) W)
  have X2 := Lib.hid (Box3.new w (.slice A n c) (.slice B k d) (.int .i64 m.til) 33)
  have U0 := Lib.hid ((Up.refl w).alloc (.cells #[.slice A n c, .slice B k d, .int .i64 m.til] 33))
  have LV := Lib.hid (show revOkV m co = (mdlB m && inB co 0 ((n : Int) - 1) && (m.rules.getD co.toNat []).all nz) by rw [← h.rules.1]; rfl)
  have FEW := Lib.hid (fun hm => mdlB_few (m := m) hm)
  have ROW := Lib.hid (fun (hm : mdlB m = true) (hi : co.toNat < n) => mdlB_row hm co.toNat (by rw [h.rules.1]; exact hi))
  have HR := Lib.hid h.rules
  have NLEN := Lib.hid h.rules.1
  rw [NLEN.out] at FEW
  have IN := Lib.hid (inB_iff (n := co) (lo := 0) (hi := (n : Int) - 1))
  generalize revOkV m co = res at LV ⊢
  generalize mdlB m = bm at CM LV FEW ROW
  generalize inB co 0 ((n : Int) - 1) = b1 at LV CF IN
  generalize m.til = til at *
  clear h
  go_enter Try.func19, Try.ntmps19
  go_wp2_with fail
  refine (CM.out _ U0.out).mono ?_; rintro x w1 ⟨rfl, u1⟩
  replace U0 := Lib.hid (U0.out.trans u1)
  replace X2 := Lib.hid (X2.out.up u1)
  clear u1 CM
  generalize w.heap.size = b2 at *
  cases bm
  · go_wp2
    go_ret
    exact ⟨ret_bool LV.out.symm, U0.out⟩
  · have few := FEW.out rfl
    obtain ⟨q0, q1, q2⟩ := And.intro X2.out.c0 (And.intro X2.out.c1 X2.out.c2)
    have ql := X2.out.lt
    have i1 : IntKind.i64.wrap ((n : Int) - 1) = (n : Int) - 1 := IntWalk.i64_in _ (by omega)
    cases b1
    · go_wp2_with fail
      refine (CF.out _).mono ?_; rintro x w2 ⟨rfl, rfl⟩; go_wp2; go_ret
      exact ⟨ret_bool LV.out.symm, U0.out⟩
    · obtain ⟨c0, c1⟩ := IN.out.1 rfl
      obtain ⟨co, rfl⟩ : ∃ q : Nat, co = q := ⟨co.toNat, by omega⟩
      have hcn : co < n := by omega
      rw [Int.toNat_natCast] at LV ROW; obtain ⟨b, off, hA, hb, hc⟩ := HR.out.2.2 (by omega); subst hA; obtain ⟨A', n', c', hcell, hrs⟩ := hc co hcn
      have HS := Lib.hid hrs
      have hlen := rulesB_len (ROW.out (by first | rfl | trivial) hcn) (by omega) (by omega)
      have RL := Lib.hid hrs.1
      have hn3 : n' ≤ 3 := by have := hrs.1; omega
      have CELL := Lib.hid hcell
      have BLT := Lib.hid hb
      clear hc hcell hrs hlen ROW
      generalize m.rules.getD co [] = rs at *
      have AD := Lib.hid (fun k h => all_drop (f := nz) (d := default) rs k h)
      have AE := Lib.hid (fun k h => all_end (f := nz) rs k h)
      have H0 := Lib.hid (show (rs.drop 0).all nz = res by rw [LV.out]; rfl)
      clear LV
      go_wp2_with fail
      refine (CF.out _).mono ?_; rintro x w2 ⟨rfl, rfl⟩; go_wp2; clear q0 q1 q2 ql
      go_loopw [5] (fun i wr => (∃ p : Nat, p ≤ n' ∧ i = .int .i64 p ∧ Hid ((rs.drop p).all nz = res)) ∧ Up w2 wr) (fun i _ => n' - (intOf i).toNat)
      case atStart => exact ⟨⟨0, by omega, rfl, H0⟩, Up.refl _⟩
      case round =>
        obtain ⟨⟨p, hp, rfl, HP⟩, ur⟩ := hrel
        have UR := Lib.hid (U0.out.trans ur)
        have UR1 := Lib.hid ur
        have x2 := X2.out.up ur
        obtain ⟨q0, q1, q2⟩ := And.intro x2.c0 (And.intro x2.c1 x2.c2)
        have ql := x2.lt
        have cell := (UR.out.cells _ _ BLT.out).trans CELL.out
        have hbr : b < wr.heap.size := by have := UR.out.size; have := BLT.out; omega
        have j1 : (co : Int) < n := by omega
        clear ur x2
        by_cases hlt : p < n'
        · obtain ⟨b3, off3, hA3, hb3, hc3⟩ := (HS.out.up UR.out).2.2 (by omega)
          subst hA3
          have a0 := hc3 p hlt
          have DR := AD.out p (by rw [RL.out]; exact hlt)
          clear hc3
          generalize rs.getD p default = r at a0 DR
          obtain ⟨kd, ra, rb, rc, es⟩ := r; obtain ⟨A3, n3, c3, ⟨r0, r1, r2, r3, r4⟩, hn3', he3⟩ := a0; dsimp only at r0 r1 r2 r3 r4
          have DRH := Lib.hid DR
          clear DR he3
          have i4 : (p : Int) < n' := by omega
          have i6 : IntKind.i64.wrap ((p : Int) + 1) = (p : Int) + 1 := IntWalk.i64_in _ (by omega)
          by_cases hz : ra = 0
          · have HZ := Lib.hid (show res = false by rw [← HP.out, DRH.out]; simp [nz, hz])
            subst hz; go_wp2; go_ret
            exact ⟨ret_bool HZ.out.symm, UR.out⟩
          · have hz1 : (ra == 0) = false := by simp [hz]
            have HN := Lib.hid (show (rs.drop (p + 1)).all nz = res by rw [← HP.out, DRH.out]; simp [nz, hz])
            go_wp2
            go_roundw
            case rel => exact ⟨⟨p + 1, by omega, by go_num, HN⟩, UR1.out⟩
            case measure => simp [intOf]; omega
        · have HT := Lib.hid (show res = true by rw [← HP.out]; exact AE.out p (by rw [RL.out]; omega))
          have i4 : ¬ (p : Int) < n' := by omega
          go_wp2; go_ret
          exact ⟨ret_bool HT.out.symm, UR.out⟩
end Go.Proofs.Ytakmlfgkppekoaa

namespace Go.Proofs.Ytakmlfgkppekoaa
set_option maxRecDepth 100000
open Go.RowKit
section
variable {P : Program} (w : World)
theorem run_append_lit (base : Nat) (t ty e : TypeId) (i : TypeInfo) (z : Value) (size bytes : Nat) (ht : P.underlying t = some (.slice e)) (hi : P.info? e = some i) (hz : i.zero = some z)
    (hsize : i.size = size) (hby : i.bytes = bytes) (hzs : z.cells.size = size) (hsz : 0 < size)
    (g : Nat) (hown : w.ownsRow base e size (.slice (some ⟨g, 0, none⟩) 0 0) 0 [])
    (B : Nat) (A : Option Addr) (m c : Nat) (news : List Value) (hr : Reads w B size A m news) (h1 : ∀ u ∈ news, u.oneCell' = true)
    (h63 : m ≤ maxLen) (hbytes : m * bytes ≤ 140737488355328) (hbase : base ≤ w.heap.size) :
    ∃ v' w', (Builtin.append_ #[t, t] ty #[.slice (some ⟨g, 0, none⟩) 0 0, .slice A m c]).run P w = .ok v' w' ∧ w'.ownsRow base e size v' m news ∧ Up w w' := by
  obtain ⟨v', w', hrun, ho, hg, hv⟩ := run_append_any (P := P) w base t ty e i z size bytes ht hi hz hsize hby hzs hsz (.slice (some ⟨g, 0, none⟩) 0 0) 0 [] hown B A m c news hr h1 (by omega) (by rw [Nat.zero_add]; exact hbytes) hbase; rw [Nat.zero_add, List.nil_append] at ho; refine ⟨v', w', hrun, ho, ⟨hg.os, hg.tape, hg.output, hg.size, fun k hk => ?_⟩⟩
  by_cases hkg : k = g
  · subst hkg
    rcases hown.2 with ⟨h, _⟩ | ⟨g', cap, cur, hv2, _, hh, _, _, hcs, _⟩
    · cases h
    · injection hv2 with hA hn hc
      injection hA with hA
      injection hA with hA _ _
      subst hA hc
      have hcur : cur = #[] := by
        apply Array.eq_empty_of_size_eq_zero; rw [hcs, Nat.zero_mul]
      subst hcur
      rcases Nat.eq_zero_or_pos m with hm | hm
      · subst hm
        have hn0 : news = [] := List.eq_nil_of_length_eq_zero (by have := hr.1; simpa using this)
        subst hn0
        rcases A with _ | ad
        · rw [run_append_of_nil (P := P) w base t ty e i size ht hi _ 0 [] hown c] at hrun
          injection hrun with _ hw
          rw [← hw]
        · have hroom := run_append_room (P := P) (w := w) t ty e i ht hi k 0 0 #[] hh ad 0 c [] (by simp) (by simp) (by simp) (by omega) (by simp)
          rw [hroom] at hrun
          injection hrun with _ hw
          rw [← hw, setRow_heap w k #[] _ e _ hh, hh]; simp
      · obtain ⟨ad, rfl, _, hcells⟩ := hr.2 hm
        have hgrow := run_append_grow (P := P) (w := w) t ty e i z ht hi hz ⟨k, 0, none⟩ 0 0 [] (by simp) (by simp) ad m c news (by rw [hsize]; exact hr.1) (fun j v hj => hcells j v hj) (by omega) (by simp only [maxLen] at h63; omega) (growslice_fits (by omega) (by rw [hby, Nat.zero_add]; exact hbytes))
        rw [hgrow] at hrun
        injection hrun with _ hw
        rw [← hw]
        exact heap_alloc_old w.drew _ (by simpa using hk)
  · exact hg.block k hk (fun e => hkg (by simpa [Value.ownBlock] using e))
theorem wp_append_lit {o : Oper} {a : Act} {K : Act → World → Prop} {Q : Exit → Act → World → Prop} (s x : Operand) (t : TypeId)
    (ho : o.op = .call { callee := .builtin .append, args := #[s, x], argTypes := #[t, t] })
    (base : Nat) (e : TypeId) (i : TypeInfo) (z : Value) (size bytes : Nat) (ht : P.underlying t = some (.slice e)) (hi : P.info? e = some i) (hz : i.zero = some z)
    (hsize : i.size = size) (hby : i.bytes = bytes) (hzs : z.cells.size = size) (hsz : 0 < size)
    (g : Nat) (hs : a.eval s = .slice (some ⟨g, 0, none⟩) 0 0) (hown : w.ownsRow base e size (.slice (some ⟨g, 0, none⟩) 0 0) 0 [])
    (B : Nat) (A : Option Addr) (m c : Nat) (news : List Value) (hx : a.eval x = .slice A m c) (hr : Reads w B size A m news) (h1 : ∀ u ∈ news, u.oneCell' = true)
    (h63 : m ≤ maxLen) (hbytes : m * bytes ≤ 140737488355328) (hbase : base ≤ w.heap.size)
    (h : ∀ v' w', w'.ownsRow base e size v' m news → Up w w' → K (a.put o.dst v') w') : o.wp P a w K Q := by
  obtain ⟨v', w', hrun, h2, h3⟩ := run_append_lit (P := P) w base t o.type e i z size bytes ht hi hz hsize hby hzs hsz g hown B A m c news hr h1 h63 hbytes hbase; unfold Oper.wp execOp; simp only [ho, resolve, invoke, builtin, Sem.run_bind, Sem.run_pure, Result.andThen_ok, List.map_toArray, List.map_cons, List.map_nil, hs, hx, hrun]
  exact h v' w' h2 h3
end
end Go.Proofs.Ytakmlfgkppekoaa

namespace Go.Proofs.Ytakmlfgkppekoaa
set_option maxRecDepth 100000
open Go.RowKit Go.Lib
section
variable {P : Program} (w : World)
theorem wpList_append_lit {ops : Array Oper} {rest : List Oper} {o : Oper} {a : Act} {Q : Exit → Act → World → Prop} (hgd : o.guard = none) (s x : Operand) (t : TypeId)
    (ho : o.op = .call { callee := .builtin .append, args := #[s, x], argTypes := #[t, t] })
    (base : Nat) (e : TypeId) (i : TypeInfo) (z : Value) (size bytes : Nat) (ht : P.underlying t = some (.slice e)) (hi : P.info? e = some i) (hz : i.zero = some z)
    (hsize : i.size = size) (hby : i.bytes = bytes) (hzs : z.cells.size = size) (hsz : 0 < size)
    (g : Nat) (hs : a.eval s = .slice (some ⟨g, 0, none⟩) 0 0) (hown : w.ownsRow base e size (.slice (some ⟨g, 0, none⟩) 0 0) 0 [])
    (B : Nat) (A : Option Addr) (m c : Nat) (news : List Value) (hx : a.eval x = .slice A m c) (hr : Reads w B size A m news) (h1 : ∀ u ∈ news, u.oneCell' = true)
    (h63 : m ≤ maxLen) (hbytes : m * bytes ≤ 140737488355328) (hbase : base ≤ w.heap.size)
    (h : ∀ v' w', w'.ownsRow base e size v' m news → Up w w' → wpList P ops Q rest (a.put o.dst v') w') : wpList P ops Q (o :: rest) a w :=
  wpList_plain hgd fun _ hK => wp_append_lit w s x t ho base e i z size bytes ht hi hz hsize hby hzs hsz g hs hown B A m c news hx hr h1 h63 hbytes hbase fun v' w' h2 h3 => hK _ _ (h v' w' h2 h3)
end
end Go.Proofs.Ytakmlfgkppekoaa

namespace Go.Proofs.Ytakmlfgkppekoaa
set_option maxRecDepth 100000
open Go.RowKit
theorem lit_new (w : World) (e size : Nat) {lo : Nat} (h : lo ≤ w.heap.size) : (w.alloc (.cells #[] e)).ownsRow lo e size (.slice (some ⟨w.heap.size, 0, none⟩) 0 0) 0 [] :=
  ⟨by simp, .inr ⟨_, 0, #[], rfl, h, heap_alloc_new _ _, by omega, by simp only [maxLen]; omega, by simp, by simp⟩⟩
/-- The rows' slices, one a component. -/
structure RowsAt (w : World) (A : Option Addr) (n : Nat) (rss : List (List Rule)) (news : List Value) : Prop where
  reads : Reads w w.heap.size 1 A n news
  one : ∀ u ∈ news, u.oneCell' = true
  row : ∀ i, i < n → ∃ A' n' c', news[i]? = some (.slice A' n' c') ∧ Rules w A' n' (rss.getD i [])
theorem rulz_rows {w : World} {A : Option Addr} {n : Nat} {rss : List (List Rule)} (h : Rulz w A n rss) : ∃ news, RowsAt w A n rss news := by
  rcases Nat.eq_zero_or_pos n with h0 | h0
  · subst h0
    exact ⟨[], ⟨⟨by simp, fun h => absurd h (by omega)⟩, (fun u hu => by cases hu), fun i hi => absurd hi (by omega)⟩⟩
  · obtain ⟨b, off, rfl, hb, hat⟩ := h.2.2 h0
    have key : ∀ i, i < n → ((List.range n).map (fun i => (w.cell? ⟨b, off + i, none⟩).getD (.bool false)))[i]? = w.cell? ⟨b, off + i, none⟩ := by
      intro i hi; obtain ⟨A', n', c', hc, _⟩ := hat i hi; rw [List.getElem?_map, List.getElem?_range hi, hc]; simp [hc]
    refine ⟨(List.range n).map (fun i => (w.cell? ⟨b, off + i, none⟩).getD (.bool false)), ⟨by simp, fun _ => ⟨_, rfl, hb, ?_⟩⟩, ?_, ?_⟩
    · intro j u hu
      have hj : j < n := by
        have := (List.getElem?_eq_some_iff.1 hu).1
        simpa using this
      rw [key j hj] at hu; rw [← hu]
      congr 1
      unfold Addr.add
      split <;> simp_all
    · intro u hu
      obtain ⟨i, hi, rfl⟩ := List.mem_map.1 hu; obtain ⟨A', n', c', hc, _⟩ := hat i (List.mem_range.1 hi); rw [hc]
      rfl
    · intro i hi
      obtain ⟨A', n', c', hc, hR⟩ := hat i hi
      exact ⟨A', n', c', by rw [key i hi, hc], hR⟩
end Go.Proofs.Ytakmlfgkppekoaa

namespace Go.Proofs.Ytakmlfgkppekoaa
set_option maxRecDepth 100000
open Go.RowKit
/-- Blocks are as they were, but that a block of rules from B0 on may get this row behind its first n rows. -/
structure MZ (B0 n : Nat) (row : List Value) (w w' : World) : Prop where
  os : w'.os = w.os
  tape : w'.tape = w.tape
  output : w'.output = w.output
  size : w.heap.size ≤ w'.heap.size
  block : ∀ k, k < w.heap.size → w'.heap[k]? = w.heap[k]? ∨ (B0 ≤ k ∧ ∃ cur cur' : Array Value, w.heap[k]? = some (.cells cur 63 (0, 0)) ∧ w'.heap[k]? = some (.cells cur' 63 (0, 0)) ∧ (n + 1) * 5 ≤ cur.size ∧ cur'.size = cur.size ∧ cur'.toList.take ((n + 1) * 5) = cur.toList.take (n * 5) ++ row)
section
variable {B0 n : Nat} {row : List Value} {w w' : World}
end
end Go.Proofs.Ytakmlfgkppekoaa

namespace Go.Proofs.Ytakmlfgkppekoaa
set_option maxRecDepth 100000
open Go.RowKit
theorem own_blk {w w' : World} {base e size n c g : Nat} {xs : List Value} (h : w.ownsRow base e size (.slice (some ⟨g, 0, none⟩) n c) n xs) (hb : w'.heap[g]? = w.heap[g]?) : w'.ownsRow base e size (.slice (some ⟨g, 0, none⟩) n c) n xs := by
  refine ⟨h.1, ?_⟩
  rcases h.2 with ⟨h0, _⟩ | ⟨g', cap, cur, hv, hB, hg, hr⟩
  · cases h0
  · have hgg : g = g' := by
      injection hv with hA
      injection hA with hA
      injection hA
    subst hgg
    exact .inr ⟨g, cap, cur, hv, hB, hb.trans hg, hr⟩
end Go.Proofs.Ytakmlfgkppekoaa

namespace Go.Proofs.Ytakmlfgkppekoaa
set_option maxRecDepth 100000
open Go.RowKit
theorem own_cur {w : World} {base e n c g : Nat} {xs : List Value} (h : w.ownsRow base e 1 (.slice (some ⟨g, 0, none⟩) n c) n xs) : ∃ cur, Blk w g e cur ∧ n ≤ cur.size ∧ ∀ i, i < n → cur[i]? = xs[i]? := by
  rcases h.2 with ⟨h0, _⟩ | ⟨g', cap, cur, hv, _, hg, hnc, _, hcs, ht⟩
  · cases h0
  · have hgg : g = g' := by
      injection hv with hA
      injection hA with hA
      injection hA
    subst hgg; refine ⟨cur, hg, by omega, fun i hi => ?_⟩; rw [← ht, List.getElem?_take_of_lt (by omega)]; simp
theorem rulz_set {wA w1 : World} {A A7 : Option Addr} {n base g9 c9 j n7 c7 : Nat} {rss : List (List Rule)} {R' : List Rule} {news : List Value} (RN : RowsAt wA A n rss news) (hl : rss.length = n) (hn : n ≤ 9223372036854775807)
    (O9 : w1.ownsRow base 60 1 (.slice (some ⟨g9, 0, none⟩) n c9) n news) (hj : j < n) (u : Up wA (w1.setCell ⟨g9, j, none⟩ (.slice A7 n7 c7))) (hR : Rules (w1.setCell ⟨g9, j, none⟩ (.slice A7 n7 c7)) A7 n7 R') :
    Rulz (w1.setCell ⟨g9, j, none⟩ (.slice A7 n7 c7)) (some ⟨g9, 0, none⟩) n (rss.set j R') := by
  obtain ⟨cur, hb, hs, hc⟩ := own_cur O9
  have hb' := hb.set j (.slice A7 n7 c7)
  refine ⟨by simp [hl], hn, fun _ => ⟨g9, 0, rfl, hb'.lt, fun i hi => ?_⟩⟩; rw [Nat.zero_add]
  by_cases e : i = j
  · subst e
    refine ⟨A7, n7, c7, hb'.cell ?_, ?_⟩
    · rw [Array.getElem?_setIfInBounds]
      simp
      omega
    · have : (rss.set i R').getD i [] = R' := by simp [List.getD, hl, hi]
      rw [this]
      exact hR
  · obtain ⟨A', n', c', hx, hr⟩ := RN.row i hi
    refine ⟨A', n', c', hb'.cell ?_, ?_⟩
    · rw [Array.getElem?_setIfInBounds, if_neg (fun h => e h.symm), hc i hi]
      exact hx
    · have : (rss.set j R').getD i [] = rss.getD i [] := by
        simp only [List.getD]; rw [List.getElem?_set_ne (fun h => e h.symm)]
      rw [this]
      exact hr.up u
end Go.Proofs.Ytakmlfgkppekoaa

namespace Go.Proofs.Ytakmlfgkppekoaa
set_option maxRecDepth 100000
open Go.RowKit
theorem Box5.farU {w : World} {b : Nat} {x y z u v : Value} (h : Box5 w b x y z u v) {p : Addr} (hp : p.block ≠ b) (q : Value) : Box5 (w.setCell p q) b x y z u v := by
  have k : ∀ j, (w.setCell p q).cell? ⟨b, j, none⟩ = w.cell? ⟨b, j, none⟩ := fun j => World.cell?_setCell_other _ _ _ _ (fun e => hp (by rw [e]))
  exact ⟨by simpa using h.lt, (k 0).trans h.c0, (k 1).trans h.c1, (k 2).trans h.c2, (k 3).trans h.c3, (k 4).trans h.c4⟩
end Go.Proofs.Ytakmlfgkppekoaa

namespace Go.Proofs.Ytakmlfgkppekoaa
set_option maxRecDepth 100000
open Go.RowKit
theorem own_form {w : World} {base e n : Nat} {v : Value} {xs : List Value} (h : w.ownsRow base e 1 v n xs) (hn : 0 < n) : ∃ g c, v = .slice (some ⟨g, 0, none⟩) n c ∧ base ≤ g := by
  rcases h.2 with ⟨_, h0⟩ | ⟨g, cap, cur, rfl, hg, _⟩
  · omega
  · exact ⟨g, cap, rfl, hg⟩
set_option maxHeartbeats 8000000 in
theorem walkRok {w : World} (A0 : Option Addr) (n0 cap : Nat) (hc : n0 ≤ cap) (hmax : cap ≤ 9223372036854775807) (hB : Bys w A0 n0 w.heap.size) :
    Calls Try.prog 8 #[.slice A0 n0 cap] w fun x w' => x = .returned (.bool true) ∧ Up w w' := by
  have HB := Lib.hid hB
  clear hB
  by_cases h : 1048576 < n0
  · have h' : (1048576 : Int) < n0 := by omega
    go_enter Try.func8, Try.ntmps8
    go_wp2; go_ret
    exact ⟨rfl, Up.refl _⟩
  have h' : ¬ (1048576 : Int) < n0 := by omega
  go_enter Try.func8, Try.ntmps8
  go_wp2_with fail
  refine (drawRok_any A0 n0 cap _ hc hmax HB.out).mono ?_; rintro x w1 ⟨A, n, c, B, k, d, m, co, rfl, MV, ⟨hn, hnc, hcm⟩, ⟨co0, co4⟩, u1⟩
  have U1 := Lib.hid u1
  have MV1 := Lib.hid MV
  clear u1 HB h h' hc hmax
  have NL := Lib.hid MV.rules.1
  have CI := Lib.hid (fun W (u : Up w1 W) => implRok_any A n c B k d m co W (MV.up u))
  have CS := Lib.hid (fun W (u : Up w1 W) => specRok_any A n c B k d m co W (MV.up u))
  have CM := Lib.hid (fun W (u : Up w1 W) => specMdl_any A n c B k d m W (MV.up u))
  have RNO := Lib.hid (fun h => rev_no (m := m) (co := co) h)
  have RNIL := Lib.hid (fun (hm : mdlB m = true) (i : Nat) hi => rev_nil (m := m) hm (i := i) hi)
  have RZ := Lib.hid (fun (i : Nat) hi => rev_zero m (i := i) hi)
  rw [NL.out] at RNO RNIL RZ
  generalize revOkV m co = bb at CI CS RNO
  have bne : (bb != bb) = false := by cases bb <;> rfl
  generalize mdlB m = gm at CM RNO RNIL
  have STS := Lib.hid MV.starts
  have KBIG := Lib.hid MV.big
  obtain ⟨iW, ht0, ht1, ht2, ht3⟩ := info_parts info60
  have INFW := Lib.hid (And.intro ht0 (And.intro ht1 (And.intro ht2 ht3)))
  clear ht0 ht1 ht2 ht3
  generalize htl : m.til = til at *
  have TIL := Lib.hid htl
  clear htl MV
  have B3 := Lib.hid (Blk.new w1 #[.slice A n c, .slice B k d, .int .i64 til] 33)
  have UV := Lib.hid ((Up.refl w1).alloc (.cells #[.slice A n c, .slice B k d, .int .i64 til] 33))
  go_wp2_with fail
  generalize w1.alloc (.cells #[.slice A n c, .slice B k d, .int .i64 til] 33) = Wx at *
  generalize hb3 : w1.heap.size = b3 at *
  refine (CI.out _ UV.out).mono ?_; rintro x w2 ⟨rfl, u⟩
  replace UV := Lib.hid (UV.out.trans u)
  replace B3 := Lib.hid (B3.out.up u)
  clear u; obtain ⟨m0, m1, m2⟩ := And.intro (B3.out.cell (j := 0) rfl) (And.intro (B3.out.cell (j := 1) rfl) (B3.out.cell (j := 2) rfl))
  have ml := B3.out.lt
  go_wp2_with fail
  refine (CS.out _ UV.out).mono ?_; rintro x w3 ⟨rfl, u⟩
  replace UV := Lib.hid (UV.out.trans u)
  replace B3 := Lib.hid (B3.out.up u)
  clear u m0 m1 m2 ml; obtain ⟨m0, m1, m2⟩ := And.intro (B3.out.cell (j := 0) rfl) (And.intro (B3.out.cell (j := 1) rfl) (B3.out.cell (j := 2) rfl))
  have ml := B3.out.lt
  go_wp2_with fail
  refine (CM.out _ UV.out).mono ?_; rintro x w4 ⟨rfl, u⟩
  replace UV := Lib.hid (UV.out.trans u)
  replace B3 := Lib.hid (B3.out.up u)
  clear u m0 m1 m2 ml bne CS CM; obtain ⟨m0, m1, m2⟩ := And.intro (B3.out.cell (j := 0) rfl) (And.intro (B3.out.cell (j := 1) rfl) (B3.out.cell (j := 2) rfl))
  have ml := B3.out.lt
  cases gm
  · obtain rfl : bb = false := RNO.out (.inl rfl)
    go_wp2; go_ret
    exact ⟨rfl, U1.out.trans UV.out⟩
  · by_cases hneg : co < 0
    · obtain rfl : bb = false := RNO.out (.inr (.inl hneg))
      go_wp2; go_ret
      exact ⟨rfl, U1.out.trans UV.out⟩
    · by_cases hge : (n : Int) ≤ co
      · have hgd : decide ((n : Int) ≤ co) = true := decide_eq_true hge
        obtain rfl : bb = false := RNO.out (.inr (.inr hge)); go_wp2; go_ret
        exact ⟨rfl, U1.out.trans UV.out⟩
      · have hgd : decide ((n : Int) ≤ co) = false := decide_eq_false hge
        obtain ⟨co, rfl⟩ : ∃ q : Nat, co = q := ⟨co.toNat, by omega⟩
        have hcn : co < n := by omega
        have i1 : (co : Int) < n := by omega
        have RX := Lib.hid (RNIL.out (by first | rfl | trivial) co hcn)
        have RY := Lib.hid (RZ.out co hcn)
        clear RNO RNIL RZ; obtain ⟨news, RN_⟩ := rulz_rows MV1.out.rules
        have RN := Lib.hid RN_
        clear RN_
        go_upto_region 10 with fail
        have ua := (Up.refl w4).alloc (.cells #[.slice A n c, .slice B k d, .int .i64 til] 33)
        have B6 := Lib.hid (Blk.new w4 #[.slice A n c, .slice B k d, .int .i64 til] 33)
        have HB6 := Lib.hid (And.intro (show w1.heap.size ≤ w4.heap.size from UV.out.size) (And.intro B3.out.lt trivial))
        replace B3 := Lib.hid (B3.out.up ua)
        replace UV := Lib.hid (UV.out.trans ua)
        clear ua m0 m1 m2 ml
        generalize w4.alloc (.cells #[.slice A n c, .slice B k d, .int .i64 til] 33) = W6a at *
        generalize w4.heap.size = b6 at *
        obtain ⟨m0, m1, m2⟩ := And.intro (B3.out.cell (j := 0) rfl) (And.intro (B3.out.cell (j := 1) rfl) (B3.out.cell (j := 2) rfl))
        have ml := B3.out.lt
        have q0 := B6.out.cell (j := 0) rfl
        have ql := B6.out.lt
        have qf := B6.out.frozen
        go_upto_region 11 with (at_builtin; refine wpList_append_lit (P := Try.prog) _ rfl (.tmp 41) (.tmp 43) 30 rfl W6a.heap.size 60 iW _ 1 24 Try.underlying30 INFW.out.1 INFW.out.2.1 INFW.out.2.2.1 INFW.out.2.2.2 rfl (by omega) W6a.heap.size rfl (lit_new W6a _ _ (Nat.le_refl _)) _ A n c news rfl (RN.out.reads.below (UV.out.alloc (.cells #[] 60)).below) RN.out.one (by simp only [maxLen]; omega) (by omega) (by simp) ?_
                                intro v6 w6 o6_ u6
                                have UZ6 := Lib.hid (((Up.refl W6a).alloc (.cells #[] 60)).trans u6)
                                obtain ⟨g6, c6, hv6, hg6⟩ := own_form o6_ (by omega); subst hv6
                                have O6 := Lib.hid o6_
                                clear q0 ql qf m0 m1 m2 ml
                                have q0 := (B6.out.up UZ6.out).cell (j := 0) rfl
                                have ql := (B6.out.up UZ6.out).lt
                                have qf := (B6.out.up UZ6.out).frozen
                                obtain ⟨m0, m1, m2⟩ := And.intro ((B3.out.up UZ6.out).cell (j := 0) rfl) (And.intro ((B3.out.up UZ6.out).cell (j := 1) rfl) ((B3.out.up UZ6.out).cell (j := 2) rfl))
                                have ml := (B3.out.up UZ6.out).lt
                                clear u6 o6_)
        have hbl := HB6.out
        have hgl := B6.out.lt
        have hg1 : w1.heap.size ≤ g6 := by omega
        have hb1 : w1.heap.size ≤ b6 := by omega
        have n36 : b3 ≠ b6 := by omega
        have x36 : b3 ≠ g6 := by omega
        have hgb : g6 ≠ b6 := by omega
        replace B3 := Lib.hid ((B3.out.up UZ6.out).far (b' := b6) 0 (.slice (some ⟨g6, 0, none⟩) n c6) n36)
        replace B6 := Lib.hid ((B6.out.up UZ6.out).set 0 (.slice (some ⟨g6, 0, none⟩) n c6))
        replace O6 := Lib.hid (own_blk O6.out (Below.heap_setCell w6 ⟨b6, 0, none⟩ (.slice (some ⟨g6, 0, none⟩) n c6) g6 hgb))
        replace UV := Lib.hid ((UV.out.trans UZ6.out).setCell (p := ⟨b6, 0, none⟩) hb1 (.slice (some ⟨g6, 0, none⟩) n c6))
        clear q0 ql qf m0 m1 m2 ml
        generalize w6.setCell ⟨b6, 0, none⟩ (.slice (some ⟨g6, 0, none⟩) n c6) = W6b at *
        obtain ⟨cur6, bl6, hcs6, -⟩ := own_cur O6.out; obtain ⟨old6, p9⟩ : ∃ u, W6b.cell? ⟨g6, co, none⟩ = some u := ⟨_, bl6.cell (Array.getElem?_eq_getElem (by omega))⟩
        have f9 := bl6.frozen
        have l9 := bl6.lt
        have q0 := B6.out.cell (j := 0) rfl
        have ql := B6.out.lt
        have hU := UV.out.setCell (p := ⟨g6, co, none⟩) hg1 (.slice none 0 0)
        have VX := Lib.hid (MdlV.mk (m := ⟨m.rules.set co [], m.starts, m.til⟩) (rulz_set RN.out MV1.out.rules.1 MV1.out.rules.2.1 O6.out hcn hU ⟨rfl, by omega, fun h => absurd h (by omega)⟩) ((MV1.out.up hU).starts) MV1.out.big)
        have UVn := Lib.hid hU
        clear hU
        replace B3 := Lib.hid (B3.out.far (b' := g6) co (.slice none 0 0) x36)
        replace B6 := Lib.hid (B6.out.far (b' := g6) co (.slice none 0 0) (fun e => hgb e.symm))
        go_upto_region 12 with fail
        replace UV := UVn
        clear UVn q0 ql p9 f9 l9
        generalize W6b.setCell ⟨g6, co, none⟩ (.slice none 0 0) = W6c at *
        have UX := Lib.hid (Up.refl W6c)
        clear hgb hgl hbl hg1 hb1; obtain ⟨m0, m1, m2⟩ := And.intro (B3.out.cell (j := 0) rfl) (And.intro (B3.out.cell (j := 1) rfl) (B3.out.cell (j := 2) rfl))
        have ml := B3.out.lt
        go_upto_region 13 with fail
        have ua := (Up.refl W6c).alloc (.cells #[.slice A n c, .slice B k d, .int .i64 til] 33)
        have B7 := Lib.hid (Blk.new W6c #[.slice A n c, .slice B k d, .int .i64 til] 33)
        have HB7 := Lib.hid (And.intro (show w1.heap.size ≤ W6c.heap.size from UV.out.size) (And.intro B3.out.lt B6.out.lt))
        replace B3 := Lib.hid (B3.out.up ua)
        replace B6 := Lib.hid (B6.out.up ua)
        replace UX := Lib.hid (UX.out.trans ua)
        replace UV := Lib.hid (UV.out.trans ua)
        clear ua m0 m1 m2 ml
        generalize W6c.alloc (.cells #[.slice A n c, .slice B k d, .int .i64 til] 33) = W7a at *
        generalize hb7 : W6c.heap.size = b7 at *
        obtain ⟨m0, m1, m2⟩ := And.intro (B3.out.cell (j := 0) rfl) (And.intro (B3.out.cell (j := 1) rfl) (B3.out.cell (j := 2) rfl))
        have ml := B3.out.lt
        have q0 := B7.out.cell (j := 0) rfl
        have ql := B7.out.lt
        have qf := B7.out.frozen
        go_upto_region 14 with (at_builtin; refine wpList_append_lit (P := Try.prog) _ rfl (.tmp 51) (.tmp 53) 30 rfl W7a.heap.size 60 iW _ 1 24 Try.underlying30 INFW.out.1 INFW.out.2.1 INFW.out.2.2.1 INFW.out.2.2.2 rfl (by omega) W7a.heap.size rfl (lit_new W7a _ _ (Nat.le_refl _)) _ A n c news rfl (RN.out.reads.below (UV.out.alloc (.cells #[] 60)).below) RN.out.one (by simp only [maxLen]; omega) (by omega) (by simp) ?_
                                intro v7 w7 o7_ u7
                                have UZ7 := Lib.hid (((Up.refl W7a).alloc (.cells #[] 60)).trans u7)
                                obtain ⟨g7, c7, hv7, hg7⟩ := own_form o7_ (by omega); subst hv7
                                have O7 := Lib.hid o7_
                                clear q0 ql qf m0 m1 m2 ml
                                have q0 := (B7.out.up UZ7.out).cell (j := 0) rfl
                                have ql := (B7.out.up UZ7.out).lt
                                have qf := (B7.out.up UZ7.out).frozen
                                obtain ⟨m0, m1, m2⟩ := And.intro ((B3.out.up UZ7.out).cell (j := 0) rfl) (And.intro ((B3.out.up UZ7.out).cell (j := 1) rfl) ((B3.out.up UZ7.out).cell (j := 2) rfl))
                                have ml := (B3.out.up UZ7.out).lt
                                clear u7 o7_)
        have hbl := HB7.out
        have hgl := B7.out.lt
        have hg1 : w1.heap.size ≤ g7 := by omega
        have hb1 : w1.heap.size ≤ b7 := by omega
        have n37 : b3 ≠ b7 := by omega
        have x37 : b3 ≠ g7 := by omega
        have n67 : b6 ≠ b7 := by omega
        have x67 : b6 ≠ g7 := by omega
        have hgb : g7 ≠ b7 := by omega
        replace B3 := Lib.hid ((B3.out.up UZ7.out).far (b' := b7) 0 (.slice (some ⟨g7, 0, none⟩) n c7) n37)
        replace B6 := Lib.hid ((B6.out.up UZ7.out).far (b' := b7) 0 (.slice (some ⟨g7, 0, none⟩) n c7) n67)
        replace B7 := Lib.hid ((B7.out.up UZ7.out).set 0 (.slice (some ⟨g7, 0, none⟩) n c7))
        replace O7 := Lib.hid (own_blk O7.out (Below.heap_setCell w7 ⟨b7, 0, none⟩ (.slice (some ⟨g7, 0, none⟩) n c7) g7 hgb))
        replace UV := Lib.hid ((UV.out.trans UZ7.out).setCell (p := ⟨b7, 0, none⟩) hb1 (.slice (some ⟨g7, 0, none⟩) n c7))
        have UX7 := Lib.hid (UX.out.trans UZ7.out |>.setCell (p := ⟨b7, 0, none⟩) (Nat.le_of_eq hb7) (.slice (some ⟨g7, 0, none⟩) n c7))
        clear q0 ql qf m0 m1 m2 ml
        generalize w7.setCell ⟨b7, 0, none⟩ (.slice (some ⟨g7, 0, none⟩) n c7) = W7b at *
        obtain ⟨cur7, bl7, hcs7, -⟩ := own_cur O7.out
        have uR := (Up.refl W7b).alloc (.cells #[.int .i64 1, .int .i64 0, .int .i64 0, .int .i64 0, .slice none 0 0] 63)
        obtain ⟨old7, p9⟩ : ∃ u, (W7b.alloc (.cells #[.int .i64 1, .int .i64 0, .int .i64 0, .int .i64 0, .slice none 0 0] 63)).cell? ⟨g7, co, none⟩ = some u := ⟨_, (bl7.alloc (.cells #[.int .i64 1, .int .i64 0, .int .i64 0, .int .i64 0, .slice none 0 0] 63)).cell (Array.getElem?_eq_getElem (by omega))⟩
        have f9 := (bl7.alloc (.cells #[.int .i64 1, .int .i64 0, .int .i64 0, .int .i64 0, .slice none 0 0] 63)).frozen
        have l9 := bl7.lt
        have X8 := Lib.hid (Box5.new W7b (.int .i64 1) (.int .i64 0) (.int .i64 0) (.int .i64 0) (.slice none 0 0) 63)
        replace O7 := Lib.hid (own_blk O7.out (uR.below.block g7 l9))
        have q0 := B7.out.cell (j := 0) rfl
        have ql := B7.out.lt
        generalize hb8 : W7b.heap.size = b8 at *
        have hg8 : b8 ≠ g7 := by omega
        have hU := (UV.out.trans uR).setCell (p := ⟨g7, co, none⟩) hg1 (.slice (some ⟨b8, 0, none⟩) 1 1)
        have hUX := (UX7.out.trans uR).setCell (p := ⟨g7, co, none⟩) (Nat.le_trans UX.out.size hg7) (.slice (some ⟨b8, 0, none⟩) 1 1)
        have X9 := X8.out.farU (p := ⟨g7, co, none⟩) (fun e => hg8 e.symm) (.slice (some ⟨b8, 0, none⟩) 1 1)
        have hRR : Rules ((W7b.alloc (.cells #[.int .i64 1, .int .i64 0, .int .i64 0, .int .i64 0, .slice none 0 0] 63)).setCell ⟨g7, co, none⟩ (.slice (some ⟨b8, 0, none⟩) 1 1)) (some ⟨b8, 0, none⟩) 1 [⟨1, 0, 0, 0, []⟩] := ⟨rfl, by omega, fun _ => ⟨b8, 0, rfl, X9.lt, fun i hi => by
          obtain rfl : i = 0 := by omega
          exact ⟨none, 0, 0, ⟨X9.c0, X9.c1, X9.c2, X9.c3, X9.c4⟩, by omega, ⟨rfl, fun h => absurd h (by omega)⟩⟩⟩⟩
        have VY := Lib.hid (MdlV.mk (m := ⟨m.rules.set co [⟨1, 0, 0, 0, []⟩], m.starts, m.til⟩) (rulz_set RN.out MV1.out.rules.1 MV1.out.rules.2.1 O7.out hcn hU hRR) ((MV1.out.up hU).starts) MV1.out.big)
        have UVn := Lib.hid hU
        replace VX := Lib.hid (VX.out.up hUX)
        replace B6 := Lib.hid ((B6.out.up uR).far (b' := g7) co (.slice (some ⟨b8, 0, none⟩) 1 1) x67)
        replace B7 := Lib.hid ((B7.out.up uR).far (b' := g7) co (.slice (some ⟨b8, 0, none⟩) 1 1) (fun e => hgb e.symm))
        clear hU hUX X9 hRR uR; rw [World.setCell_alloc_past _ _ _ _ bl7.lt] at UVn VX VY B6 B7
        go_upto_region 15 with fail
        replace UV := UVn
        clear UVn q0 ql p9 f9 l9
        generalize (W7b.setCell ⟨g7, co, none⟩ (.slice (some ⟨b8, 0, none⟩) 1 1)).alloc (.cells #[.int .i64 1, .int .i64 0, .int .i64 0, .int .i64 0, .slice none 0 0] 63) = Wz at *
        have CX := Lib.hid (fun W (u : Up Wz W) => implRok_any (some ⟨g6, 0, none⟩) n c6 B k d ⟨m.rules.set co [], m.starts, m.til⟩ (co : Int) W (VX.out.up u))
        have CY := Lib.hid (fun W (u : Up Wz W) => implRok_any (some ⟨g7, 0, none⟩) n c7 B k d ⟨m.rules.set co [⟨1, 0, 0, 0, []⟩], m.starts, m.til⟩ (co : Int) W (VY.out.up u))
        dsimp only at CX CY; rw [TIL.out] at CX CY; rw [RX.out] at CX; rw [RY.out] at CY; obtain ⟨s0, s1, s2⟩ := And.intro (B6.out.cell (j := 0) rfl) (And.intro (B6.out.cell (j := 1) rfl) (B6.out.cell (j := 2) rfl))
        have sl := B6.out.lt
        go_wp2_with fail
        refine (CX.out _ (Up.refl _)).mono ?_; rintro x wy ⟨rfl, u⟩
        have UY := Lib.hid u
        replace UV := Lib.hid (UV.out.trans u)
        replace B7 := Lib.hid (B7.out.up u)
        clear u s0 s1 s2 sl; obtain ⟨s0, s1, s2⟩ := And.intro (B7.out.cell (j := 0) rfl) (And.intro (B7.out.cell (j := 1) rfl) (B7.out.cell (j := 2) rfl))
        have sl := B7.out.lt
        go_wp2_with fail
        refine (CY.out _ UY.out).mono ?_; rintro x wu ⟨rfl, u⟩
        replace UV := Lib.hid (UV.out.trans u)
        clear u s0 s1 s2 sl; go_wp2; go_ret
        exact ⟨rfl, U1.out.trans UV.out⟩
end Go.Proofs.Ytakmlfgkppekoaa

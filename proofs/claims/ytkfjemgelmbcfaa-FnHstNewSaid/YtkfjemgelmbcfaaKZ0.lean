/-
  What append to an empty literal gives, in one sentence: the elements in a block of the call's own, and all that was there is as it was; for every slice that lies in memory.
-/
import Derived.Test.YtkfjemgelmbcfaaKC
namespace Go.Proofs.Ytkfjemgelmbcfaa
set_option maxRecDepth 100000
open Go.RowKit

section
variable {P : Program} (w : World)
theorem run_append_lit (base : Nat) (t ty e : TypeId) (i : TypeInfo) (z : Value) (size bytes : Nat) (ht : P.underlying t = some (.slice e)) (hi : P.info? e = some i) (hz : i.zero = some z)
    (hsize : i.size = size) (hby : i.bytes = bytes) (hzs : z.cells.size = size) (hsz : 0 < size)
    (g : Nat) (hown : w.ownsRow base e size (.slice (some ⟨g, 0, none⟩) 0 0) 0 [])
    (B : Nat) (A : Option Addr) (m c : Nat) (news : List Value) (hr : Reads w B size A m news) (h1 : ∀ u ∈ news, u.oneCell' = true)
    (h63 : m ≤ maxLen) (hbytes : m * bytes ≤ 140737488355328) (hbase : base ≤ w.heap.size) :
    ∃ v' w', (Builtin.append_ #[t, t] ty #[.slice (some ⟨g, 0, none⟩) 0 0, .slice A m c]).run P w = .ok v' w' ∧ w'.ownsRow base e size v' m news ∧ Up w w' := by
  obtain ⟨v', w', hrun, ho, hg, hv⟩ := run_append_any (P := P) w base t ty e i z size bytes ht hi hz hsize hby hzs hsz (.slice (some ⟨g, 0, none⟩) 0 0) 0 [] hown B A m c news hr h1 (by omega) (by rw [Nat.zero_add]; exact hbytes) hbase
  rw [Nat.zero_add, List.nil_append] at ho
  refine ⟨v', w', hrun, ho, ⟨hg.os, hg.tape, hg.output, hg.size, fun k hk => ?_⟩⟩
  by_cases hkg : k = g
  · subst hkg
    rcases hown.2 with ⟨h, _⟩ | ⟨g', cap, cur, hv2, _, hh, _, _, hcs, _⟩
    · cases h
    · injection hv2 with hA hn hc
      injection hA with hA
      injection hA with hA _ _
      subst hA hc
      have hcur : cur = #[] := by
        apply Array.eq_empty_of_size_eq_zero
        rw [hcs, Nat.zero_mul]
      subst hcur
      rcases Nat.eq_zero_or_pos m with hm | hm
      · subst hm
        have hn0 : news = [] := List.eq_nil_of_length_eq_zero (by have := hr.1; simpa using this)
        subst hn0
        rcases A with _ | ad
        · rw [run_append_of_nil (P := P) w base t ty e i size ht hi _ 0 [] hown c] at hrun
          injection hrun with _ hw
          rw [← hw]
        · have hroom := run_append_room (P := P) (w := w) t ty e i ht hi k 0 0 #[] hh ad 0 c [] (by simp) (by simp) (by simp) (by omega) (by simp)
          rw [hroom] at hrun
          injection hrun with _ hw
          rw [← hw, setRow_heap w k #[] _ e _ hh, hh]
          simp
      · obtain ⟨ad, rfl, _, hcells⟩ := hr.2 hm
        have hgrow := run_append_grow (P := P) (w := w) t ty e i z ht hi hz ⟨k, 0, none⟩ 0 0 [] (by simp) (by simp) ad m c news (by rw [hsize]; exact hr.1) (fun j v hj => hcells j v hj) (by omega) (by simp only [maxLen] at h63; omega) (growslice_fits (by omega) (by rw [hby, Nat.zero_add]; exact hbytes))
        rw [hgrow] at hrun
        injection hrun with _ hw
        rw [← hw]
        exact heap_alloc_old w.drew _ (by simpa using hk)
  · exact hg.block k hk (fun e => hkg (by simpa [Value.ownBlock] using e))

theorem wp_append_lit {o : Oper} {a : Act} {K : Act → World → Prop} {Q : Exit → Act → World → Prop} (s x : Operand) (t : TypeId)
    (ho : o.op = .call { callee := .builtin .append, args := #[s, x], argTypes := #[t, t] })
    (base : Nat) (e : TypeId) (i : TypeInfo) (z : Value) (size bytes : Nat) (ht : P.underlying t = some (.slice e)) (hi : P.info? e = some i) (hz : i.zero = some z)
    (hsize : i.size = size) (hby : i.bytes = bytes) (hzs : z.cells.size = size) (hsz : 0 < size)
    (g : Nat) (hs : a.eval s = .slice (some ⟨g, 0, none⟩) 0 0) (hown : w.ownsRow base e size (.slice (some ⟨g, 0, none⟩) 0 0) 0 [])
    (B : Nat) (A : Option Addr) (m c : Nat) (news : List Value) (hx : a.eval x = .slice A m c) (hr : Reads w B size A m news) (h1 : ∀ u ∈ news, u.oneCell' = true)
    (h63 : m ≤ maxLen) (hbytes : m * bytes ≤ 140737488355328) (hbase : base ≤ w.heap.size)
    (h : ∀ v' w', w'.ownsRow base e size v' m news → Up w w' → K (a.put o.dst v') w') : o.wp P a w K Q := by
  obtain ⟨v', w', hrun, h2, h3⟩ := run_append_lit (P := P) w base t o.type e i z size bytes ht hi hz hsize hby hzs hsz g hown B A m c news hr h1 h63 hbytes hbase
  unfold Oper.wp execOp
  simp only [ho, resolve, invoke, builtin, Sem.run_bind, Sem.run_pure, Result.andThen_ok, List.map_toArray, List.map_cons, List.map_nil, hs, hx, hrun]
  exact h v' w' h2 h3
end

end Go.Proofs.Ytkfjemgelmbcfaa

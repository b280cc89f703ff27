/-
  What spec.l2Rules returns, in one sentence: whether a component's rules are in order and each is a rule; for every list of rules that lies in memory.
-/
import Derived.Test.YtakmlfgkppekoaaDLRok08
namespace Go.Proofs.Ytakmlfgkppekoaa
set_option maxRecDepth 100000
open Go.RowKit
/-- The cells of a rule's own block. -/
structure Box5 (w : World) (b : Nat) (x y z u v : Value) : Prop where
  lt : b < w.heap.size
  c0 : w.cell? ⟨b, 0, none⟩ = some x
  c1 : w.cell? ⟨b, 1, none⟩ = some y
  c2 : w.cell? ⟨b, 2, none⟩ = some z
  c3 : w.cell? ⟨b, 3, none⟩ = some u
  c4 : w.cell? ⟨b, 4, none⟩ = some v
theorem Box5.new (w : World) (x y z u v : Value) (t : TypeId) : Box5 (w.alloc (.cells #[x, y, z, u, v] t)) w.heap.size x y z u v := by
  have hh := heap_alloc_new w (.cells #[x, y, z, u, v] t)
  exact ⟨by simp, by rw [cell_of_row _ _ 0 _ _ _ hh]; rfl, by rw [cell_of_row _ _ 1 _ _ _ hh]; rfl, by rw [cell_of_row _ _ 2 _ _ _ hh]; rfl, by rw [cell_of_row _ _ 3 _ _ _ hh]; rfl, by rw [cell_of_row _ _ 4 _ _ _ hh]; rfl⟩
theorem Box5.up {w w' : World} {b : Nat} {x y z u v : Value} (h : Box5 w b x y z u v) (k : Up w w') : Box5 w' b x y z u v :=
  ⟨Nat.lt_of_lt_of_le h.lt k.size, (k.cells _ _ h.lt).trans h.c0, (k.cells _ _ h.lt).trans h.c1, (k.cells _ _ h.lt).trans h.c2, (k.cells _ _ h.lt).trans h.c3, (k.cells _ _ h.lt).trans h.c4⟩
theorem l1In_up (v lo hi : Int) (b : Bool) (W : World) (h : inB v lo hi = b) : Calls Try.prog 64 #[.int .i64 v, .int .i64 lo, .int .i64 hi] W fun x w' => x = .returned (.bool b) ∧ Up W w' :=
  (l1In_any v lo hi W).mono (by rintro x w' ⟨rfl, rfl⟩; exact ⟨by rw [h], Up.refl _⟩)
/-- bf is the kind ahead of place q. -/
def Ahead (rs : List Rule) (q : Nat) (bf : Int) : Prop := (q = 0 ∧ bf = -1) ∨ ∃ i, q = i + 1 ∧ bf = (rs.getD i default).kd
set_option maxHeartbeats 40000000 in
theorem specRules_any (A : Option Addr) (n c : Nat) (many : Int) (rs : List Rule) (hm1 : 1 ≤ many) (hm2 : many ≤ 4) (w : World) (hR : Rules w A n rs) :
    Calls Try.prog 83 #[.slice A n c, .int .i64 many] w fun x w' => x = .returned (.bool (rulesB many (-1) rs)) ∧ Up w w' := by
  have L1 := Lib.hid l1In_up
  have CS := Lib.hid (fun e W => specSnd_any e many hm1 hm2 W)
  have AD := Lib.hid (fun es k h => all_drop (f := fun e => sndB e many) (d := default) es k h)
  have AE := Lib.hid (fun es k h => all_end (f := fun e => sndB e many) es k h)
  have RD := Lib.hid (fun bf rs i h => rulesB_drop many bf rs i h)
  have RE := Lib.hid (fun bf rs i h => rulesB_end many bf rs i h)
  have hbig := hR.2.1
  have HR := Lib.hid hR
  have LR := Lib.hid hR.1
  have H0 := Lib.hid (show rulesB many (-1) (rs.drop 0) = rulesB many (-1) rs from rfl)
  generalize rulesB many (-1) rs = res at H0 ⊢
  clear hR
  go_enter Try.func83, Try.ntmps83
  go_wp2
  go_loopw [5] (fun i wr => (∃ (q : Nat) (bf : Int), q ≤ n ∧ i = .int .i64 q ∧ Hid (Ahead rs q bf) ∧ Hid (rulesB many bf (rs.drop q) = res)) ∧ Up w wr) (fun i _ => n - (intOf i).toNat)
  case atStart => exact ⟨⟨0, -1, by omega, rfl, Lib.hid (.inl ⟨rfl, rfl⟩), H0⟩, Up.refl _⟩
  case round =>
    obtain ⟨⟨q, bf, hq, rfl, HAH, HB⟩, ur⟩ := hrel; obtain ⟨wo, hwo⟩ : ∃ W, W = wr := ⟨_, rfl⟩; subst hwo
    have HW := Lib.hid ur
    by_cases hlt : q < n
    · obtain ⟨b, off, hA, hb, hc⟩ := (HR.out.up ur).2.2 (by omega)
      subst hA
      have at2 := hc q hlt
      have T := RD.out bf rs q (by rw [LR.out]; exact hlt)
      have NB := Lib.hid (show Ahead rs (q + 1) (rs.getD q default).kd from .inr ⟨q, rfl, rfl⟩)
      have PREV := Lib.hid (fun i (h : i < n) => hc i h)
      clear hc ur
      generalize rs.getD q default = r at at2 T NB
      obtain ⟨A3, n3, c3, ⟨r0, r1, r2, r3, r4⟩, hn3, he3⟩ := at2; obtain ⟨kd, ra, rb, rc, es⟩ := r; rw [show ruleB ⟨kd, ra, rb, rc, es⟩ many = (es.all (fun e => sndB e many) && decide ((n3 : Int) ≤ 2) && inB kd 0 2 && inB ra 0 96 && inB rb 0 96 && inB rc 0 96) by rw [← he3.1]; rfl] at T
      have H3 := Lib.hid (show (es.drop 0).all (fun e => sndB e many) = es.all (fun e => sndB e many) from rfl)
      generalize es.all (fun e => sndB e many) = al at T H3
      have LE := Lib.hid he3.1
      have E3 := Lib.hid he3
      dsimp only at r0 r1 r2 r3 r4 T NB
      generalize hokk : rulesB many bf (rs.drop q) = ok at T HB
      have T := Lib.hid T
      clear he3 hokk
      have i4 : (q : Int) < n := by omega
      have i5 : IntKind.i64.wrap ((q : Int) + 1) = (q : Int) + 1 := IntWalk.i64_in _ (by omega)
      have nx : b ≠ wo.heap.size := by omega
      cases h1 : inB kd 0 2
      · go_wp2_with fail
        refine region_qw (by kernel_rfl) (by kernel_rfl) ?_; refine qWalk_step ?_; intro K hK; go_simp; apply Exists.intro; refine And.intro ?_ ?_
        · intro w1 hw1
          try go_simp
          try rfl
        try go_simp
        refine hK _ ?_; clear hK K; refine qWalk_step ?_; intro K hK; go_simp; apply Exists.intro; refine And.intro ?_ ?_
        · intro w1 hw1
          obtain ⟨hc, hf, hz⟩ := hw1.facts
          try simp at hz
          try go_simp
          try rfl
        try go_simp
        refine hK _ ?_; clear hK K; refine qWalk_step ?_; intro K hK; go_simp; apply Exists.intro; refine And.intro ?_ ?_
        · intro w1 hw1
          try go_simp
          exact up_call hw1 (L1.out kd 0 2 _ _ h1)
        try go_simp
        iterate 2
          refine hK _ ?_; clear hK K; refine qWalk_step ?_; intro K hK; go_simp; apply Exists.intro; refine And.intro ?_ ?_
          · intro w1 hw1
            try go_simp
            try rfl
          try go_simp
        iterate 14
          refine hK _ ?_; clear hK K; refine qWalk_step ?_; intro K hK; go_simp
        iterate 2
          apply Exists.intro; refine And.intro ?_ ?_
          · intro w1 hw1
            try go_simp
            try rfl
          try go_simp
          refine hK _ ?_; clear hK K; refine qWalk_step ?_; intro K hK; go_simp
        iterate 4
          refine hK _ ?_; clear hK K; refine qWalk_step ?_; intro K hK; go_simp
        iterate 2
          apply Exists.intro; refine And.intro ?_ ?_
          · intro w1 hw1
            try go_simp
            try rfl
          try go_simp
          refine hK _ ?_; clear hK K; refine qWalk_step ?_; intro K hK; go_simp
        iterate 4
          refine hK _ ?_; clear hK K; refine qWalk_step ?_; intro K hK; go_simp
        iterate 2
          apply Exists.intro; refine And.intro ?_ ?_
          · intro w1 hw1
            try go_simp
            try rfl
          try go_simp
          refine hK _ ?_; clear hK K; refine qWalk_step ?_; intro K hK; go_simp
        iterate 4
          refine hK _ ?_; clear hK K; refine qWalk_step ?_; intro K hK; go_simp
        iterate 2
          apply Exists.intro; refine And.intro ?_ ?_
          · intro w1 hw1
            try go_simp
            try rfl
          try go_simp
          refine hK _ ?_; clear hK K; refine qWalk_step ?_; intro K hK; go_simp
        iterate 4
          refine hK _ ?_; clear hK K; refine qWalk_step ?_; intro K hK; go_simp
        apply Exists.intro; refine And.intro ?_ ?_
        · intro w1 hw1
          try go_simp
          try rfl
        try go_simp
        refine hK _ ?_; clear hK K; refine qWalk_nil ?_; intro wA uA
        have UA := Lib.hid ((HW.out.alloc _).trans uA)
        have hok : ok = false := by rw [T.out, h1]; simp
        clear uA; go_wp2; go_ret
        exact ⟨ret_bool (by rw [← HB.out, hok]), UA.out⟩
      · rcases HAH.out with ⟨hq0, rfl⟩ | ⟨i, hqi, hbf⟩
        · have HQ0 := Lib.hid hq0
          clear hq0
          have hasc : (-1 : Int) < kd := by have := (inB_iff.1 h1).1; omega
          cases h2 : inB ra 0 96
          · go_wp2_with fail
            have jz : (0 < q) = False := eq_false (by rw [HQ0.out]; omega)
            refine region_qw (by kernel_rfl) (by kernel_rfl) ?_; refine qWalk_step ?_; intro K hK; go_simp; apply Exists.intro; refine And.intro ?_ ?_
            · intro w1 hw1
              try go_simp
              try rfl
            try go_simp
            refine hK _ ?_; clear hK K; refine qWalk_step ?_; intro K hK; go_simp; apply Exists.intro; refine And.intro ?_ ?_
            · intro w1 hw1
              obtain ⟨hc, hf, hz⟩ := hw1.facts
              try simp at hz
              try go_simp
              try rfl
            try go_simp
            refine hK _ ?_; clear hK K; refine qWalk_step ?_; intro K hK; go_simp; apply Exists.intro; refine And.intro ?_ ?_
            · intro w1 hw1
              try go_simp
              exact up_call hw1 (L1.out kd 0 2 _ _ h1)
            try go_simp
            iterate 5
              refine hK _ ?_; clear hK K; refine qWalk_step ?_; intro K hK; go_simp; apply Exists.intro; refine And.intro ?_ ?_
              · intro w1 hw1
                try go_simp
                try rfl
              try go_simp
            iterate 10
              refine hK _ ?_; clear hK K; refine qWalk_step ?_; intro K hK; go_simp
            iterate 4
              apply Exists.intro; refine And.intro ?_ ?_
              · intro w1 hw1
                try go_simp
                try rfl
              try go_simp
              refine hK _ ?_; clear hK K; refine qWalk_step ?_; intro K hK; go_simp
            apply Exists.intro; refine And.intro ?_ ?_
            · intro w1 hw1
              obtain ⟨hc, hf, hz⟩ := hw1.facts
              try simp at hz
              try go_simp
              try rfl
            try go_simp
            refine hK _ ?_; clear hK K; refine qWalk_step ?_; intro K hK; go_simp; apply Exists.intro; refine And.intro ?_ ?_
            · intro w1 hw1
              try go_simp
              exact up_call hw1 (L1.out ra 0 96 _ _ h2)
            try go_simp
            iterate 3
              refine hK _ ?_; clear hK K; refine qWalk_step ?_; intro K hK; go_simp; apply Exists.intro; refine And.intro ?_ ?_
              · intro w1 hw1
                try go_simp
                try rfl
              try go_simp
            iterate 5
              refine hK _ ?_; clear hK K; refine qWalk_step ?_; intro K hK; go_simp
            iterate 2
              apply Exists.intro; refine And.intro ?_ ?_
              · intro w1 hw1
                try go_simp
                try rfl
              try go_simp
              refine hK _ ?_; clear hK K; refine qWalk_step ?_; intro K hK; go_simp
            iterate 4
              refine hK _ ?_; clear hK K; refine qWalk_step ?_; intro K hK; go_simp
            iterate 2
              apply Exists.intro; refine And.intro ?_ ?_
              · intro w1 hw1
                try go_simp
                try rfl
              try go_simp
              refine hK _ ?_; clear hK K; refine qWalk_step ?_; intro K hK; go_simp
            iterate 4
              refine hK _ ?_; clear hK K; refine qWalk_step ?_; intro K hK; go_simp
            apply Exists.intro; refine And.intro ?_ ?_
            · intro w1 hw1
              try go_simp
              try rfl
            try go_simp
            refine hK _ ?_; clear hK K; refine qWalk_nil ?_; intro wA uA; clear jz
            have UA := Lib.hid ((HW.out.alloc _).trans uA)
            have hok : ok = false := by rw [T.out, h2]; simp
            clear uA; go_wp2; go_ret
            exact ⟨ret_bool (by rw [← HB.out, hok]), UA.out⟩
          · cases h3 : inB rb 0 96
            · go_wp2_with fail
              have jz : (0 < q) = False := eq_false (by rw [HQ0.out]; omega)
              refine region_qw (by kernel_rfl) (by kernel_rfl) ?_; refine qWalk_step ?_; intro K hK; go_simp; apply Exists.intro; refine And.intro ?_ ?_
              · intro w1 hw1
                try go_simp
                try rfl
              try go_simp
              refine hK _ ?_; clear hK K; refine qWalk_step ?_; intro K hK; go_simp; apply Exists.intro; refine And.intro ?_ ?_
              · intro w1 hw1
                obtain ⟨hc, hf, hz⟩ := hw1.facts
                try simp at hz
                try go_simp
                try rfl
              try go_simp
              refine hK _ ?_; clear hK K; refine qWalk_step ?_; intro K hK; go_simp; apply Exists.intro; refine And.intro ?_ ?_
              · intro w1 hw1
                try go_simp
                exact up_call hw1 (L1.out kd 0 2 _ _ h1)
              try go_simp
              iterate 5
                refine hK _ ?_; clear hK K; refine qWalk_step ?_; intro K hK; go_simp; apply Exists.intro; refine And.intro ?_ ?_
                · intro w1 hw1
                  try go_simp
                  try rfl
                try go_simp
              iterate 10
                refine hK _ ?_; clear hK K; refine qWalk_step ?_; intro K hK; go_simp
              iterate 4
                apply Exists.intro; refine And.intro ?_ ?_
                · intro w1 hw1
                  try go_simp
                  try rfl
                try go_simp
                refine hK _ ?_; clear hK K; refine qWalk_step ?_; intro K hK; go_simp
              apply Exists.intro; refine And.intro ?_ ?_
              · intro w1 hw1
                obtain ⟨hc, hf, hz⟩ := hw1.facts
                try simp at hz
                try go_simp
                try rfl
              try go_simp
              refine hK _ ?_; clear hK K; refine qWalk_step ?_; intro K hK; go_simp; apply Exists.intro; refine And.intro ?_ ?_
              · intro w1 hw1
                try go_simp
                exact up_call hw1 (L1.out ra 0 96 _ _ h2)
              try go_simp
              iterate 4
                refine hK _ ?_; clear hK K; refine qWalk_step ?_; intro K hK; go_simp; apply Exists.intro; refine And.intro ?_ ?_
                · intro w1 hw1
                  try go_simp
                  try rfl
                try go_simp
              refine hK _ ?_; clear hK K; refine qWalk_step ?_; intro K hK; go_simp; apply Exists.intro; refine And.intro ?_ ?_
              · intro w1 hw1
                obtain ⟨hc, hf, hz⟩ := hw1.facts
                try simp at hz
                try go_simp
                try rfl
              try go_simp
              refine hK _ ?_; clear hK K; refine qWalk_step ?_; intro K hK; go_simp; apply Exists.intro; refine And.intro ?_ ?_
              · intro w1 hw1
                try go_simp
                exact up_call hw1 (L1.out rb 0 96 _ _ h3)
              try go_simp
              iterate 3
                refine hK _ ?_; clear hK K; refine qWalk_step ?_; intro K hK; go_simp; apply Exists.intro; refine And.intro ?_ ?_
                · intro w1 hw1
                  try go_simp
                  try rfl
                try go_simp
              iterate 5
                refine hK _ ?_; clear hK K; refine qWalk_step ?_; intro K hK; go_simp
              iterate 2
                apply Exists.intro; refine And.intro ?_ ?_
                · intro w1 hw1
                  try go_simp
                  try rfl
                try go_simp
                refine hK _ ?_; clear hK K; refine qWalk_step ?_; intro K hK; go_simp
              iterate 4
                refine hK _ ?_; clear hK K; refine qWalk_step ?_; intro K hK; go_simp
              apply Exists.intro; refine And.intro ?_ ?_
              · intro w1 hw1
                try go_simp
                try rfl
              try go_simp
              refine hK _ ?_; clear hK K; refine qWalk_nil ?_; intro wA uA; clear jz
              have UA := Lib.hid ((HW.out.alloc _).trans uA)
              have hok : ok = false := by rw [T.out, h3]; simp
              clear uA; go_wp2; go_ret
              exact ⟨ret_bool (by rw [← HB.out, hok]), UA.out⟩
            · cases h4 : inB rc 0 96
              · go_wp2_with fail
                have jz : (0 < q) = False := eq_false (by rw [HQ0.out]; omega)
                refine region_qw (by kernel_rfl) (by kernel_rfl) ?_; refine qWalk_step ?_; intro K hK; go_simp; apply Exists.intro; refine And.intro ?_ ?_
                · intro w1 hw1
                  try go_simp
                  try rfl
                try go_simp
                refine hK _ ?_; clear hK K; refine qWalk_step ?_; intro K hK; go_simp; apply Exists.intro; refine And.intro ?_ ?_
                · intro w1 hw1
                  obtain ⟨hc, hf, hz⟩ := hw1.facts
                  try simp at hz
                  try go_simp
                  try rfl
                try go_simp
                refine hK _ ?_; clear hK K; refine qWalk_step ?_; intro K hK; go_simp; apply Exists.intro; refine And.intro ?_ ?_
                · intro w1 hw1
                  try go_simp
                  exact up_call hw1 (L1.out kd 0 2 _ _ h1)
                try go_simp
                iterate 5
                  refine hK _ ?_; clear hK K; refine qWalk_step ?_; intro K hK; go_simp; apply Exists.intro; refine And.intro ?_ ?_
                  · intro w1 hw1
                    try go_simp
                    try rfl
                  try go_simp
                iterate 10
                  refine hK _ ?_; clear hK K; refine qWalk_step ?_; intro K hK; go_simp
                iterate 4
                  apply Exists.intro; refine And.intro ?_ ?_
                  · intro w1 hw1
                    try go_simp
                    try rfl
                  try go_simp
                  refine hK _ ?_; clear hK K; refine qWalk_step ?_; intro K hK; go_simp
                apply Exists.intro; refine And.intro ?_ ?_
                · intro w1 hw1
                  obtain ⟨hc, hf, hz⟩ := hw1.facts
                  try simp at hz
                  try go_simp
                  try rfl
                try go_simp
                refine hK _ ?_; clear hK K; refine qWalk_step ?_; intro K hK; go_simp; apply Exists.intro; refine And.intro ?_ ?_
                · intro w1 hw1
                  try go_simp
                  exact up_call hw1 (L1.out ra 0 96 _ _ h2)
                try go_simp
                iterate 4
                  refine hK _ ?_; clear hK K; refine qWalk_step ?_; intro K hK; go_simp; apply Exists.intro; refine And.intro ?_ ?_
                  · intro w1 hw1
                    try go_simp
                    try rfl
                  try go_simp
                refine hK _ ?_; clear hK K; refine qWalk_step ?_; intro K hK; go_simp; apply Exists.intro; refine And.intro ?_ ?_
                · intro w1 hw1
                  obtain ⟨hc, hf, hz⟩ := hw1.facts
                  try simp at hz
                  try go_simp
                  try rfl
                try go_simp
                refine hK _ ?_; clear hK K; refine qWalk_step ?_; intro K hK; go_simp; apply Exists.intro; refine And.intro ?_ ?_
                · intro w1 hw1
                  try go_simp
                  exact up_call hw1 (L1.out rb 0 96 _ _ h3)
                try go_simp
                iterate 4
                  refine hK _ ?_; clear hK K; refine qWalk_step ?_; intro K hK; go_simp; apply Exists.intro; refine And.intro ?_ ?_
                  · intro w1 hw1
                    try go_simp
                    try rfl
                  try go_simp
                refine hK _ ?_; clear hK K; refine qWalk_step ?_; intro K hK; go_simp; apply Exists.intro; refine And.intro ?_ ?_
                · intro w1 hw1
                  obtain ⟨hc, hf, hz⟩ := hw1.facts
                  try simp at hz
                  try go_simp
                  try rfl
                try go_simp
                refine hK _ ?_; clear hK K; refine qWalk_step ?_; intro K hK; go_simp; apply Exists.intro; refine And.intro ?_ ?_
                · intro w1 hw1
                  try go_simp
                  exact up_call hw1 (L1.out rc 0 96 _ _ h4)
                try go_simp
                iterate 3
                  refine hK _ ?_; clear hK K; refine qWalk_step ?_; intro K hK; go_simp; apply Exists.intro; refine And.intro ?_ ?_
                  · intro w1 hw1
                    try go_simp
                    try rfl
                  try go_simp
                iterate 5
                  refine hK _ ?_; clear hK K; refine qWalk_step ?_; intro K hK; go_simp
                apply Exists.intro; refine And.intro ?_ ?_
                · intro w1 hw1
                  try go_simp
                  try rfl
                try go_simp
                refine hK _ ?_; clear hK K; refine qWalk_nil ?_; intro wA uA; clear jz
                have UA := Lib.hid ((HW.out.alloc _).trans uA)
                have hok : ok = false := by rw [T.out, h4]; simp
                clear uA; go_wp2; go_ret
                exact ⟨ret_bool (by rw [← HB.out, hok]), UA.out⟩
              · by_cases h5 : (n3 : Int) ≤ 2
                · have j5 : ¬ (2 : Int) < n3 := by omega
                  go_wp2_with fail
                  have jz : (0 < q) = False := eq_false (by rw [HQ0.out]; omega)
                  refine region_qw (by kernel_rfl) (by kernel_rfl) ?_; refine qWalk_step ?_; intro K hK; go_simp; apply Exists.intro; refine And.intro ?_ ?_
                  · intro w1 hw1
                    try go_simp
                    try rfl
                  try go_simp
                  refine hK _ ?_; clear hK K; refine qWalk_step ?_; intro K hK; go_simp; apply Exists.intro; refine And.intro ?_ ?_
                  · intro w1 hw1
                    obtain ⟨hc, hf, hz⟩ := hw1.facts
                    try simp at hz
                    try go_simp
                    try rfl
                  try go_simp
                  refine hK _ ?_; clear hK K; refine qWalk_step ?_; intro K hK; go_simp; apply Exists.intro; refine And.intro ?_ ?_
                  · intro w1 hw1
                    try go_simp
                    exact up_call hw1 (L1.out kd 0 2 _ _ h1)
                  try go_simp
                  iterate 5
                    refine hK _ ?_; clear hK K; refine qWalk_step ?_; intro K hK; go_simp; apply Exists.intro; refine And.intro ?_ ?_
                    · intro w1 hw1
                      try go_simp
                      try rfl
                    try go_simp
                  iterate 10
                    refine hK _ ?_; clear hK K; refine qWalk_step ?_; intro K hK; go_simp
                  iterate 4
                    apply Exists.intro; refine And.intro ?_ ?_
                    · intro w1 hw1
                      try go_simp
                      try rfl
                    try go_simp
                    refine hK _ ?_; clear hK K; refine qWalk_step ?_; intro K hK; go_simp
                  apply Exists.intro; refine And.intro ?_ ?_
                  · intro w1 hw1
                    obtain ⟨hc, hf, hz⟩ := hw1.facts
                    try simp at hz
                    try go_simp
                    try rfl
                  try go_simp
                  refine hK _ ?_; clear hK K; refine qWalk_step ?_; intro K hK; go_simp; apply Exists.intro; refine And.intro ?_ ?_
                  · intro w1 hw1
                    try go_simp
                    exact up_call hw1 (L1.out ra 0 96 _ _ h2)
                  try go_simp
                  iterate 4
                    refine hK _ ?_; clear hK K; refine qWalk_step ?_; intro K hK; go_simp; apply Exists.intro; refine And.intro ?_ ?_
                    · intro w1 hw1
                      try go_simp
                      try rfl
                    try go_simp
                  refine hK _ ?_; clear hK K; refine qWalk_step ?_; intro K hK; go_simp; apply Exists.intro; refine And.intro ?_ ?_
                  · intro w1 hw1
                    obtain ⟨hc, hf, hz⟩ := hw1.facts
                    try simp at hz
                    try go_simp
                    try rfl
                  try go_simp
                  refine hK _ ?_; clear hK K; refine qWalk_step ?_; intro K hK; go_simp; apply Exists.intro; refine And.intro ?_ ?_
                  · intro w1 hw1
                    try go_simp
                    exact up_call hw1 (L1.out rb 0 96 _ _ h3)
                  try go_simp
                  iterate 4
                    refine hK _ ?_; clear hK K; refine qWalk_step ?_; intro K hK; go_simp; apply Exists.intro; refine And.intro ?_ ?_
                    · intro w1 hw1
                      try go_simp
                      try rfl
                    try go_simp
                  refine hK _ ?_; clear hK K; refine qWalk_step ?_; intro K hK; go_simp; apply Exists.intro; refine And.intro ?_ ?_
                  · intro w1 hw1
                    obtain ⟨hc, hf, hz⟩ := hw1.facts
                    try simp at hz
                    try go_simp
                    try rfl
                  try go_simp
                  refine hK _ ?_; clear hK K; refine qWalk_step ?_; intro K hK; go_simp; apply Exists.intro; refine And.intro ?_ ?_
                  · intro w1 hw1
                    try go_simp
                    exact up_call hw1 (L1.out rc 0 96 _ _ h4)
                  try go_simp
                  iterate 4
                    refine hK _ ?_; clear hK K; refine qWalk_step ?_; intro K hK; go_simp; apply Exists.intro; refine And.intro ?_ ?_
                    · intro w1 hw1
                      try go_simp
                      try rfl
                    try go_simp
                  refine hK _ ?_; clear hK K; refine qWalk_step ?_; intro K hK; go_simp; apply Exists.intro; refine And.intro ?_ ?_
                  · intro w1 hw1
                    obtain ⟨hc, hf, hz⟩ := hw1.facts
                    try simp at hz
                    try go_simp
                    try rfl
                  try go_simp
                  iterate 3
                    refine hK _ ?_; clear hK K; refine qWalk_step ?_; intro K hK; go_simp; apply Exists.intro; refine And.intro ?_ ?_
                    · intro w1 hw1
                      try go_simp
                      try rfl
                    try go_simp
                  refine hK _ ?_; clear hK K; refine qWalk_nil ?_; intro wA uA; clear jz
                  have UA := Lib.hid ((HW.out.alloc _).trans uA)
                  have EA := Lib.hid ((E3.out.up ((Up.refl _).alloc _)).up uA)
                  have BA := Lib.hid ((Box5.new wo (.int .i64 kd) (.int .i64 ra) (.int .i64 rb) (.int .i64 rc) (.slice A3 n3 c3) 63).up uA)
                  have TT := Lib.hid (show ok = (al && rulesB many kd (rs.drop (q + 1))) by rw [T.out, h1, h2, h3, h4, decide_eq_true h5, decide_eq_true hasc]; simp)
                  have bl := BA.out.lt
                  clear uA
                  go_wp2_with fail
                  go_loopw [7] (fun j wr => (∃ p : Nat, p ≤ n3 ∧ j = .int .i64 p ∧ Hid ((es.drop p).all (fun e => sndB e many) = al)) ∧ Up wA wr) (fun j _ => n3 - (intOf j).toNat)
                  case atStart => exact ⟨⟨0, by omega, rfl, H3⟩, Up.refl _⟩
                  case round =>
                    obtain ⟨⟨p, hp, rfl, HA⟩, uj⟩ := hrel
                    have UJ := Lib.hid uj
                    have bq := BA.out.up uj
                    have bqc := bq.c4
                    have bql := bq.lt
                    clear bq uj
                    by_cases hlp : p < n3
                    · obtain ⟨b2, off2, hA2, hb2, hc2⟩ := (EA.out.up UJ.out).2 (by omega)
                      subst hA2
                      have a0 := hc2 p hlp
                      clear hc2
                      have S := AD.out es p (by rw [LE.out]; exact hlp)
                      rw [HA.out] at S
                      have cl := CS.out (es.getD p default)
                      generalize es.getD p default = e at a0 S cl
                      generalize sndB e many = s at S cl
                      obtain ⟨et, eto, efr, esq, ekd, edt⟩ := e; unfold EvAt at a0; unfold Evt.v at cl; dsimp only at a0 cl; obtain ⟨p0, p1, p2, p3, p4, p5⟩ := a0
                      have C := Lib.hid cl
                      have S' := Lib.hid S
                      clear cl S
                      have i6 : (p : Int) < n3 := by omega
                      have i7 : IntKind.i64.wrap ((p : Int) + 1) = (p : Int) + 1 := IntWalk.i64_in _ (by omega)
                      go_wp2_with fail
                      refine (C.out _).mono ?_; rintro x w2 ⟨rfl, u2⟩
                      have U2 := Lib.hid (UJ.out.trans u2)
                      clear u2
                      cases s
                      · have hok : ok = false := by rw [TT.out, show al = false by rw [S'.out]; rfl]; rfl
                        go_wp2; go_ret
                        exact ⟨ret_bool (by rw [← HB.out, hok]), UA.out.trans U2.out⟩
                      · have AL := Lib.hid (show (es.drop (p + 1)).all (fun e => sndB e many) = al by rw [S'.out, Bool.true_and])
                        go_wp2
                        go_roundw
                        case rel => exact ⟨⟨p + 1, by omega, by first | rfl | go_num, AL⟩, U2.out⟩
                        case measure => (simp [intOf]; try omega)
                    · have hal : al = true := HA.out.symm.trans (AE.out es p (by rw [LE.out]; omega))
                      have T2 := Lib.hid (show rulesB many kd (rs.drop (q + 1)) = res by rw [← HB.out, TT.out, hal, Bool.true_and])
                      have i6 : ¬ (p : Int) < n3 := by omega
                      clear hal; go_wp2
                      go_roundw
                      case rel => exact ⟨⟨q + 1, kd, by omega, by first | rfl | go_num, NB, T2⟩, UA.out.trans UJ.out⟩
                      case measure => (simp [intOf]; try omega)
                · have j5 : (2 : Int) < n3 := by omega
                  go_wp2_with fail
                  have jz : (0 < q) = False := eq_false (by rw [HQ0.out]; omega)
                  refine region_qw (by kernel_rfl) (by kernel_rfl) ?_; refine qWalk_step ?_; intro K hK; go_simp; apply Exists.intro; refine And.intro ?_ ?_
                  · intro w1 hw1
                    try go_simp
                    try rfl
                  try go_simp
                  refine hK _ ?_; clear hK K; refine qWalk_step ?_; intro K hK; go_simp; apply Exists.intro; refine And.intro ?_ ?_
                  · intro w1 hw1
                    obtain ⟨hc, hf, hz⟩ := hw1.facts
                    try simp at hz
                    try go_simp
                    try rfl
                  try go_simp
                  refine hK _ ?_; clear hK K; refine qWalk_step ?_; intro K hK; go_simp; apply Exists.intro; refine And.intro ?_ ?_
                  · intro w1 hw1
                    try go_simp
                    exact up_call hw1 (L1.out kd 0 2 _ _ h1)
                  try go_simp
                  iterate 5
                    refine hK _ ?_; clear hK K; refine qWalk_step ?_; intro K hK; go_simp; apply Exists.intro; refine And.intro ?_ ?_
                    · intro w1 hw1
                      try go_simp
                      try rfl
                    try go_simp
                  iterate 10
                    refine hK _ ?_; clear hK K; refine qWalk_step ?_; intro K hK; go_simp
                  iterate 4
                    apply Exists.intro; refine And.intro ?_ ?_
                    · intro w1 hw1
                      try go_simp
                      try rfl
                    try go_simp
                    refine hK _ ?_; clear hK K; refine qWalk_step ?_; intro K hK; go_simp
                  apply Exists.intro; refine And.intro ?_ ?_
                  · intro w1 hw1
                    obtain ⟨hc, hf, hz⟩ := hw1.facts
                    try simp at hz
                    try go_simp
                    try rfl
                  try go_simp
                  refine hK _ ?_; clear hK K; refine qWalk_step ?_; intro K hK; go_simp; apply Exists.intro; refine And.intro ?_ ?_
                  · intro w1 hw1
                    try go_simp
                    exact up_call hw1 (L1.out ra 0 96 _ _ h2)
                  try go_simp
                  iterate 4
                    refine hK _ ?_; clear hK K; refine qWalk_step ?_; intro K hK; go_simp; apply Exists.intro; refine And.intro ?_ ?_
                    · intro w1 hw1
                      try go_simp
                      try rfl
                    try go_simp
                  refine hK _ ?_; clear hK K; refine qWalk_step ?_; intro K hK; go_simp; apply Exists.intro; refine And.intro ?_ ?_
                  · intro w1 hw1
                    obtain ⟨hc, hf, hz⟩ := hw1.facts
                    try simp at hz
                    try go_simp
                    try rfl
                  try go_simp
                  refine hK _ ?_; clear hK K; refine qWalk_step ?_; intro K hK; go_simp; apply Exists.intro; refine And.intro ?_ ?_
                  · intro w1 hw1
                    try go_simp
                    exact up_call hw1 (L1.out rb 0 96 _ _ h3)
                  try go_simp
                  iterate 4
                    refine hK _ ?_; clear hK K; refine qWalk_step ?_; intro K hK; go_simp; apply Exists.intro; refine And.intro ?_ ?_
                    · intro w1 hw1
                      try go_simp
                      try rfl
                    try go_simp
                  refine hK _ ?_; clear hK K; refine qWalk_step ?_; intro K hK; go_simp; apply Exists.intro; refine And.intro ?_ ?_
                  · intro w1 hw1
                    obtain ⟨hc, hf, hz⟩ := hw1.facts
                    try simp at hz
                    try go_simp
                    try rfl
                  try go_simp
                  refine hK _ ?_; clear hK K; refine qWalk_step ?_; intro K hK; go_simp; apply Exists.intro; refine And.intro ?_ ?_
                  · intro w1 hw1
                    try go_simp
                    exact up_call hw1 (L1.out rc 0 96 _ _ h4)
                  try go_simp
                  iterate 4
                    refine hK _ ?_; clear hK K; refine qWalk_step ?_; intro K hK; go_simp; apply Exists.intro; refine And.intro ?_ ?_
                    · intro w1 hw1
                      try go_simp
                      try rfl
                    try go_simp
                  refine hK _ ?_; clear hK K; refine qWalk_step ?_; intro K hK; go_simp; apply Exists.intro; refine And.intro ?_ ?_
                  · intro w1 hw1
                    obtain ⟨hc, hf, hz⟩ := hw1.facts
                    try simp at hz
                    try go_simp
                    try rfl
                  try go_simp
                  iterate 3
                    refine hK _ ?_; clear hK K; refine qWalk_step ?_; intro K hK; go_simp; apply Exists.intro; refine And.intro ?_ ?_
                    · intro w1 hw1
                      try go_simp
                      try rfl
                    try go_simp
                  refine hK _ ?_; clear hK K; refine qWalk_nil ?_; intro wA uA; clear jz
                  have UA := Lib.hid ((HW.out.alloc _).trans uA)
                  have hok : ok = false := by rw [T.out, decide_eq_false (show ¬ (n3 : Int) ≤ 2 by omega)]; simp
                  clear uA; go_wp2; go_ret
                  exact ⟨ret_bool (by rw [← HB.out, hok]), UA.out⟩
        · have a1 := PREV.out i (by omega)
          generalize rs.getD i default = pr at a1 hbf
          obtain ⟨_, _, _, ⟨z0, _⟩, _⟩ := a1; rw [← hbf] at z0; clear hbf
          have l6 : (i : Int) < n := by omega
          have l7 : IntKind.i64.wrap ((q : Int) - 1) = (i : Int) := by rw [show (q : Int) - 1 = i by omega]; exact IntWalk.i64_in _ (by omega)
          have l8 : 0 < q := by omega
          clear hqi
          by_cases hasc : bf < kd
          · have j9 : ¬ kd ≤ bf := by omega
            cases h2 : inB ra 0 96
            · go_wp2_with fail
              refine region_qw (by kernel_rfl) (by kernel_rfl) ?_; refine qWalk_step ?_; intro K hK; go_simp; apply Exists.intro; refine And.intro ?_ ?_
              · intro w1 hw1
                try go_simp
                try rfl
              try go_simp
              refine hK _ ?_; clear hK K; refine qWalk_step ?_; intro K hK; go_simp; apply Exists.intro; refine And.intro ?_ ?_
              · intro w1 hw1
                obtain ⟨hc, hf, hz⟩ := hw1.facts
                try simp at hz
                try go_simp
                try rfl
              try go_simp
              refine hK _ ?_; clear hK K; refine qWalk_step ?_; intro K hK; go_simp; apply Exists.intro; refine And.intro ?_ ?_
              · intro w1 hw1
                try go_simp
                exact up_call hw1 (L1.out kd 0 2 _ _ h1)
              try go_simp
              iterate 10
                refine hK _ ?_; clear hK K; refine qWalk_step ?_; intro K hK; go_simp; apply Exists.intro; refine And.intro ?_ ?_
                · intro w1 hw1
                  try go_simp
                  try rfl
                try go_simp
              refine hK _ ?_; clear hK K; refine qWalk_step ?_; intro K hK; go_simp; apply Exists.intro; refine And.intro ?_ ?_
              · intro w1 hw1
                obtain ⟨hc, hf, hz⟩ := hw1.facts
                try simp at hz
                try go_simp
                try rfl
              try go_simp
              refine hK _ ?_; clear hK K; refine qWalk_step ?_; intro K hK; go_simp; apply Exists.intro; refine And.intro ?_ ?_
              · intro w1 hw1
                try go_simp
                try rfl
              try go_simp
              refine hK _ ?_; clear hK K; refine qWalk_step ?_; intro K hK; go_simp; apply Exists.intro; refine And.intro ?_ ?_
              · intro w1 hw1
                obtain ⟨hc, hf, hz⟩ := hw1.facts
                try simp at hz
                try go_simp
                try rfl
              try go_simp
              iterate 5
                refine hK _ ?_; clear hK K; refine qWalk_step ?_; intro K hK; go_simp; apply Exists.intro; refine And.intro ?_ ?_
                · intro w1 hw1
                  try go_simp
                  try rfl
                try go_simp
              refine hK _ ?_; clear hK K; refine qWalk_step ?_; intro K hK; go_simp; apply Exists.intro; refine And.intro ?_ ?_
              · intro w1 hw1
                obtain ⟨hc, hf, hz⟩ := hw1.facts
                try simp at hz
                try go_simp
                try rfl
              try go_simp
              refine hK _ ?_; clear hK K; refine qWalk_step ?_; intro K hK; go_simp; apply Exists.intro; refine And.intro ?_ ?_
              · intro w1 hw1
                try go_simp
                exact up_call hw1 (L1.out ra 0 96 _ _ h2)
              try go_simp
              iterate 3
                refine hK _ ?_; clear hK K; refine qWalk_step ?_; intro K hK; go_simp; apply Exists.intro; refine And.intro ?_ ?_
                · intro w1 hw1
                  try go_simp
                  try rfl
                try go_simp
              iterate 5
                refine hK _ ?_; clear hK K; refine qWalk_step ?_; intro K hK; go_simp
              iterate 2
                apply Exists.intro; refine And.intro ?_ ?_
                · intro w1 hw1
                  try go_simp
                  try rfl
                try go_simp
                refine hK _ ?_; clear hK K; refine qWalk_step ?_; intro K hK; go_simp
              iterate 4
                refine hK _ ?_; clear hK K; refine qWalk_step ?_; intro K hK; go_simp
              iterate 2
                apply Exists.intro; refine And.intro ?_ ?_
                · intro w1 hw1
                  try go_simp
                  try rfl
                try go_simp
                refine hK _ ?_; clear hK K; refine qWalk_step ?_; intro K hK; go_simp
              iterate 4
                refine hK _ ?_; clear hK K; refine qWalk_step ?_; intro K hK; go_simp
              apply Exists.intro; refine And.intro ?_ ?_
              · intro w1 hw1
                try go_simp
                try rfl
              try go_simp
              refine hK _ ?_; clear hK K; refine qWalk_nil ?_; intro wA uA
              have UA := Lib.hid ((HW.out.alloc _).trans uA)
              have hok : ok = false := by rw [T.out, h2]; simp
              clear uA; go_wp2; go_ret
              exact ⟨ret_bool (by rw [← HB.out, hok]), UA.out⟩
            · cases h3 : inB rb 0 96
              · go_wp2_with fail
                refine region_qw (by kernel_rfl) (by kernel_rfl) ?_; refine qWalk_step ?_; intro K hK; go_simp; apply Exists.intro; refine And.intro ?_ ?_
                · intro w1 hw1
                  try go_simp
                  try rfl
                try go_simp
                refine hK _ ?_; clear hK K; refine qWalk_step ?_; intro K hK; go_simp; apply Exists.intro; refine And.intro ?_ ?_
                · intro w1 hw1
                  obtain ⟨hc, hf, hz⟩ := hw1.facts
                  try simp at hz
                  try go_simp
                  try rfl
                try go_simp
                refine hK _ ?_; clear hK K; refine qWalk_step ?_; intro K hK; go_simp; apply Exists.intro; refine And.intro ?_ ?_
                · intro w1 hw1
                  try go_simp
                  exact up_call hw1 (L1.out kd 0 2 _ _ h1)
                try go_simp
                iterate 10
                  refine hK _ ?_; clear hK K; refine qWalk_step ?_; intro K hK; go_simp; apply Exists.intro; refine And.intro ?_ ?_
                  · intro w1 hw1
                    try go_simp
                    try rfl
                  try go_simp
                refine hK _ ?_; clear hK K; refine qWalk_step ?_; intro K hK; go_simp; apply Exists.intro; refine And.intro ?_ ?_
                · intro w1 hw1
                  obtain ⟨hc, hf, hz⟩ := hw1.facts
                  try simp at hz
                  try go_simp
                  try rfl
                try go_simp
                refine hK _ ?_; clear hK K; refine qWalk_step ?_; intro K hK; go_simp; apply Exists.intro; refine And.intro ?_ ?_
                · intro w1 hw1
                  try go_simp
                  try rfl
                try go_simp
                refine hK _ ?_; clear hK K; refine qWalk_step ?_; intro K hK; go_simp; apply Exists.intro; refine And.intro ?_ ?_
                · intro w1 hw1
                  obtain ⟨hc, hf, hz⟩ := hw1.facts
                  try simp at hz
                  try go_simp
                  try rfl
                try go_simp
                iterate 5
                  refine hK _ ?_; clear hK K; refine qWalk_step ?_; intro K hK; go_simp; apply Exists.intro; refine And.intro ?_ ?_
                  · intro w1 hw1
                    try go_simp
                    try rfl
                  try go_simp
                refine hK _ ?_; clear hK K; refine qWalk_step ?_; intro K hK; go_simp; apply Exists.intro; refine And.intro ?_ ?_
                · intro w1 hw1
                  obtain ⟨hc, hf, hz⟩ := hw1.facts
                  try simp at hz
                  try go_simp
                  try rfl
                try go_simp
                refine hK _ ?_; clear hK K; refine qWalk_step ?_; intro K hK; go_simp; apply Exists.intro; refine And.intro ?_ ?_
                · intro w1 hw1
                  try go_simp
                  exact up_call hw1 (L1.out ra 0 96 _ _ h2)
                try go_simp
                iterate 4
                  refine hK _ ?_; clear hK K; refine qWalk_step ?_; intro K hK; go_simp; apply Exists.intro; refine And.intro ?_ ?_
                  · intro w1 hw1
                    try go_simp
                    try rfl
                  try go_simp
                refine hK _ ?_; clear hK K; refine qWalk_step ?_; intro K hK; go_simp; apply Exists.intro; refine And.intro ?_ ?_
                · intro w1 hw1
                  obtain ⟨hc, hf, hz⟩ := hw1.facts
                  try simp at hz
                  try go_simp
                  try rfl
                try go_simp
                refine hK _ ?_; clear hK K; refine qWalk_step ?_; intro K hK; go_simp; apply Exists.intro; refine And.intro ?_ ?_
                · intro w1 hw1
                  try go_simp
                  exact up_call hw1 (L1.out rb 0 96 _ _ h3)
                try go_simp
                iterate 3
                  refine hK _ ?_; clear hK K; refine qWalk_step ?_; intro K hK; go_simp; apply Exists.intro; refine And.intro ?_ ?_
                  · intro w1 hw1
                    try go_simp
                    try rfl
                  try go_simp
                iterate 5
                  refine hK _ ?_; clear hK K; refine qWalk_step ?_; intro K hK; go_simp
                iterate 2
                  apply Exists.intro; refine And.intro ?_ ?_
                  · intro w1 hw1
                    try go_simp
                    try rfl
                  try go_simp
                  refine hK _ ?_; clear hK K; refine qWalk_step ?_; intro K hK; go_simp
                iterate 4
                  refine hK _ ?_; clear hK K; refine qWalk_step ?_; intro K hK; go_simp
                apply Exists.intro; refine And.intro ?_ ?_
                · intro w1 hw1
                  try go_simp
                  try rfl
                try go_simp
                refine hK _ ?_; clear hK K; refine qWalk_nil ?_; intro wA uA
                have UA := Lib.hid ((HW.out.alloc _).trans uA)
                have hok : ok = false := by rw [T.out, h3]; simp
                clear uA; go_wp2; go_ret
                exact ⟨ret_bool (by rw [← HB.out, hok]), UA.out⟩
              · cases h4 : inB rc 0 96
                · go_wp2_with fail
                  refine region_qw (by kernel_rfl) (by kernel_rfl) ?_; refine qWalk_step ?_; intro K hK; go_simp; apply Exists.intro; refine And.intro ?_ ?_
                  · intro w1 hw1
                    try go_simp
                    try rfl
                  try go_simp
                  refine hK _ ?_; clear hK K; refine qWalk_step ?_; intro K hK; go_simp; apply Exists.intro; refine And.intro ?_ ?_
                  · intro w1 hw1
                    obtain ⟨hc, hf, hz⟩ := hw1.facts
                    try simp at hz
                    try go_simp
                    try rfl
                  try go_simp
                  refine hK _ ?_; clear hK K; refine qWalk_step ?_; intro K hK; go_simp; apply Exists.intro; refine And.intro ?_ ?_
                  · intro w1 hw1
                    try go_simp
                    exact up_call hw1 (L1.out kd 0 2 _ _ h1)
                  try go_simp
                  iterate 10
                    refine hK _ ?_; clear hK K; refine qWalk_step ?_; intro K hK; go_simp; apply Exists.intro; refine And.intro ?_ ?_
                    · intro w1 hw1
                      try go_simp
                      try rfl
                    try go_simp
                  refine hK _ ?_; clear hK K; refine qWalk_step ?_; intro K hK; go_simp; apply Exists.intro; refine And.intro ?_ ?_
                  · intro w1 hw1
                    obtain ⟨hc, hf, hz⟩ := hw1.facts
                    try simp at hz
                    try go_simp
                    try rfl
                  try go_simp
                  refine hK _ ?_; clear hK K; refine qWalk_step ?_; intro K hK; go_simp; apply Exists.intro; refine And.intro ?_ ?_
                  · intro w1 hw1
                    try go_simp
                    try rfl
                  try go_simp
                  refine hK _ ?_; clear hK K; refine qWalk_step ?_; intro K hK; go_simp; apply Exists.intro; refine And.intro ?_ ?_
                  · intro w1 hw1
                    obtain ⟨hc, hf, hz⟩ := hw1.facts
                    try simp at hz
                    try go_simp
                    try rfl
                  try go_simp
                  iterate 5
                    refine hK _ ?_; clear hK K; refine qWalk_step ?_; intro K hK; go_simp; apply Exists.intro; refine And.intro ?_ ?_
                    · intro w1 hw1
                      try go_simp
                      try rfl
                    try go_simp
                  refine hK _ ?_; clear hK K; refine qWalk_step ?_; intro K hK; go_simp; apply Exists.intro; refine And.intro ?_ ?_
                  · intro w1 hw1
                    obtain ⟨hc, hf, hz⟩ := hw1.facts
                    try simp at hz
                    try go_simp
                    try rfl
                  try go_simp
                  refine hK _ ?_; clear hK K; refine qWalk_step ?_; intro K hK; go_simp; apply Exists.intro; refine And.intro ?_ ?_
                  · intro w1 hw1
                    try go_simp
                    exact up_call hw1 (L1.out ra 0 96 _ _ h2)
                  try go_simp
                  iterate 4
                    refine hK _ ?_; clear hK K; refine qWalk_step ?_; intro K hK; go_simp; apply Exists.intro; refine And.intro ?_ ?_
                    · intro w1 hw1
                      try go_simp
                      try rfl
                    try go_simp
                  refine hK _ ?_; clear hK K; refine qWalk_step ?_; intro K hK; go_simp; apply Exists.intro; refine And.intro ?_ ?_
                  · intro w1 hw1
                    obtain ⟨hc, hf, hz⟩ := hw1.facts
                    try simp at hz
                    try go_simp
                    try rfl
                  try go_simp
                  refine hK _ ?_; clear hK K; refine qWalk_step ?_; intro K hK; go_simp; apply Exists.intro; refine And.intro ?_ ?_
                  · intro w1 hw1
                    try go_simp
                    exact up_call hw1 (L1.out rb 0 96 _ _ h3)
                  try go_simp
                  iterate 4
                    refine hK _ ?_; clear hK K; refine qWalk_step ?_; intro K hK; go_simp; apply Exists.intro; refine And.intro ?_ ?_
                    · intro w1 hw1
                      try go_simp
                      try rfl
                    try go_simp
                  refine hK _ ?_; clear hK K; refine qWalk_step ?_; intro K hK; go_simp; apply Exists.intro; refine And.intro ?_ ?_
                  · intro w1 hw1
                    obtain ⟨hc, hf, hz⟩ := hw1.facts
                    try simp at hz
                    try go_simp
                    try rfl
                  try go_simp
                  refine hK _ ?_; clear hK K; refine qWalk_step ?_; intro K hK; go_simp; apply Exists.intro; refine And.intro ?_ ?_
                  · intro w1 hw1
                    try go_simp
                    exact up_call hw1 (L1.out rc 0 96 _ _ h4)
                  try go_simp
                  iterate 3
                    refine hK _ ?_; clear hK K; refine qWalk_step ?_; intro K hK; go_simp; apply Exists.intro; refine And.intro ?_ ?_
                    · intro w1 hw1
                      try go_simp
                      try rfl
                    try go_simp
                  iterate 5
                    refine hK _ ?_; clear hK K; refine qWalk_step ?_; intro K hK; go_simp
                  apply Exists.intro; refine And.intro ?_ ?_
                  · intro w1 hw1
                    try go_simp
                    try rfl
                  try go_simp
                  refine hK _ ?_; clear hK K; refine qWalk_nil ?_; intro wA uA
                  have UA := Lib.hid ((HW.out.alloc _).trans uA)
                  have hok : ok = false := by rw [T.out, h4]; simp
                  clear uA; go_wp2; go_ret
                  exact ⟨ret_bool (by rw [← HB.out, hok]), UA.out⟩
                · by_cases h5 : (n3 : Int) ≤ 2
                  · have j5 : ¬ (2 : Int) < n3 := by omega
                    go_wp2_with fail
                    refine region_qw (by kernel_rfl) (by kernel_rfl) ?_; refine qWalk_step ?_; intro K hK; go_simp; apply Exists.intro; refine And.intro ?_ ?_
                    · intro w1 hw1
                      try go_simp
                      try rfl
                    try go_simp
                    refine hK _ ?_; clear hK K; refine qWalk_step ?_; intro K hK; go_simp; apply Exists.intro; refine And.intro ?_ ?_
                    · intro w1 hw1
                      obtain ⟨hc, hf, hz⟩ := hw1.facts
                      try simp at hz
                      try go_simp
                      try rfl
                    try go_simp
                    refine hK _ ?_; clear hK K; refine qWalk_step ?_; intro K hK; go_simp; apply Exists.intro; refine And.intro ?_ ?_
                    · intro w1 hw1
                      try go_simp
                      exact up_call hw1 (L1.out kd 0 2 _ _ h1)
                    try go_simp
                    iterate 10
                      refine hK _ ?_; clear hK K; refine qWalk_step ?_; intro K hK; go_simp; apply Exists.intro; refine And.intro ?_ ?_
                      · intro w1 hw1
                        try go_simp
                        try rfl
                      try go_simp
                    refine hK _ ?_; clear hK K; refine qWalk_step ?_; intro K hK; go_simp; apply Exists.intro; refine And.intro ?_ ?_
                    · intro w1 hw1
                      obtain ⟨hc, hf, hz⟩ := hw1.facts
                      try simp at hz
                      try go_simp
                      try rfl
                    try go_simp
                    refine hK _ ?_; clear hK K; refine qWalk_step ?_; intro K hK; go_simp; apply Exists.intro; refine And.intro ?_ ?_
                    · intro w1 hw1
                      try go_simp
                      try rfl
                    try go_simp
                    refine hK _ ?_; clear hK K; refine qWalk_step ?_; intro K hK; go_simp; apply Exists.intro; refine And.intro ?_ ?_
                    · intro w1 hw1
                      obtain ⟨hc, hf, hz⟩ := hw1.facts
                      try simp at hz
                      try go_simp
                      try rfl
                    try go_simp
                    iterate 5
                      refine hK _ ?_; clear hK K; refine qWalk_step ?_; intro K hK; go_simp; apply Exists.intro; refine And.intro ?_ ?_
                      · intro w1 hw1
                        try go_simp
                        try rfl
                      try go_simp
                    refine hK _ ?_; clear hK K; refine qWalk_step ?_; intro K hK; go_simp; apply Exists.intro; refine And.intro ?_ ?_
                    · intro w1 hw1
                      obtain ⟨hc, hf, hz⟩ := hw1.facts
                      try simp at hz
                      try go_simp
                      try rfl
                    try go_simp
                    refine hK _ ?_; clear hK K; refine qWalk_step ?_; intro K hK; go_simp; apply Exists.intro; refine And.intro ?_ ?_
                    · intro w1 hw1
                      try go_simp
                      exact up_call hw1 (L1.out ra 0 96 _ _ h2)
                    try go_simp
                    iterate 4
                      refine hK _ ?_; clear hK K; refine qWalk_step ?_; intro K hK; go_simp; apply Exists.intro; refine And.intro ?_ ?_
                      · intro w1 hw1
                        try go_simp
                        try rfl
                      try go_simp
                    refine hK _ ?_; clear hK K; refine qWalk_step ?_; intro K hK; go_simp; apply Exists.intro; refine And.intro ?_ ?_
                    · intro w1 hw1
                      obtain ⟨hc, hf, hz⟩ := hw1.facts
                      try simp at hz
                      try go_simp
                      try rfl
                    try go_simp
                    refine hK _ ?_; clear hK K; refine qWalk_step ?_; intro K hK; go_simp; apply Exists.intro; refine And.intro ?_ ?_
                    · intro w1 hw1
                      try go_simp
                      exact up_call hw1 (L1.out rb 0 96 _ _ h3)
                    try go_simp
                    iterate 4
                      refine hK _ ?_; clear hK K; refine qWalk_step ?_; intro K hK; go_simp; apply Exists.intro; refine And.intro ?_ ?_
                      · intro w1 hw1
                        try go_simp
                        try rfl
                      try go_simp
                    refine hK _ ?_; clear hK K; refine qWalk_step ?_; intro K hK; go_simp; apply Exists.intro; refine And.intro ?_ ?_
                    · intro w1 hw1
                      obtain ⟨hc, hf, hz⟩ := hw1.facts
                      try simp at hz
                      try go_simp
                      try rfl
                    try go_simp
                    refine hK _ ?_; clear hK K; refine qWalk_step ?_; intro K hK; go_simp; apply Exists.intro; refine And.intro ?_ ?_
                    · intro w1 hw1
                      try go_simp
                      exact up_call hw1 (L1.out rc 0 96 _ _ h4)
                    try go_simp
                    iterate 4
                      refine hK _ ?_; clear hK K; refine qWalk_step ?_; intro K hK; go_simp; apply Exists.intro; refine And.intro ?_ ?_
                      · intro w1 hw1
                        try go_simp
                        try rfl
                      try go_simp
                    refine hK _ ?_; clear hK K; refine qWalk_step ?_; intro K hK; go_simp; apply Exists.intro; refine And.intro ?_ ?_
                    · intro w1 hw1
                      obtain ⟨hc, hf, hz⟩ := hw1.facts
                      try simp at hz
                      try go_simp
                      try rfl
                    try go_simp
                    iterate 3
                      refine hK _ ?_; clear hK K; refine qWalk_step ?_; intro K hK; go_simp; apply Exists.intro; refine And.intro ?_ ?_
                      · intro w1 hw1
                        try go_simp
                        try rfl
                      try go_simp
                    refine hK _ ?_; clear hK K; refine qWalk_nil ?_; intro wA uA
                    have UA := Lib.hid ((HW.out.alloc _).trans uA)
                    have EA := Lib.hid ((E3.out.up ((Up.refl _).alloc _)).up uA)
                    have BA := Lib.hid ((Box5.new wo (.int .i64 kd) (.int .i64 ra) (.int .i64 rb) (.int .i64 rc) (.slice A3 n3 c3) 63).up uA)
                    have TT := Lib.hid (show ok = (al && rulesB many kd (rs.drop (q + 1))) by rw [T.out, h1, h2, h3, h4, decide_eq_true h5, decide_eq_true hasc]; simp)
                    have bl := BA.out.lt
                    clear uA
                    go_wp2_with fail
                    go_loopw [7] (fun j wr => (∃ p : Nat, p ≤ n3 ∧ j = .int .i64 p ∧ Hid ((es.drop p).all (fun e => sndB e many) = al)) ∧ Up wA wr) (fun j _ => n3 - (intOf j).toNat)
                    case atStart => exact ⟨⟨0, by omega, rfl, H3⟩, Up.refl _⟩
                    case round =>
                      obtain ⟨⟨p, hp, rfl, HA⟩, uj⟩ := hrel
                      have UJ := Lib.hid uj
                      have bq := BA.out.up uj
                      have bqc := bq.c4
                      have bql := bq.lt
                      clear bq uj
                      by_cases hlp : p < n3
                      · obtain ⟨b2, off2, hA2, hb2, hc2⟩ := (EA.out.up UJ.out).2 (by omega)
                        subst hA2
                        have a0 := hc2 p hlp
                        clear hc2
                        have S := AD.out es p (by rw [LE.out]; exact hlp)
                        rw [HA.out] at S
                        have cl := CS.out (es.getD p default)
                        generalize es.getD p default = e at a0 S cl
                        generalize sndB e many = s at S cl
                        obtain ⟨et, eto, efr, esq, ekd, edt⟩ := e; unfold EvAt at a0; unfold Evt.v at cl; dsimp only at a0 cl; obtain ⟨p0, p1, p2, p3, p4, p5⟩ := a0
                        have C := Lib.hid cl
                        have S' := Lib.hid S
                        clear cl S
                        have i6 : (p : Int) < n3 := by omega
                        have i7 : IntKind.i64.wrap ((p : Int) + 1) = (p : Int) + 1 := IntWalk.i64_in _ (by omega)
                        go_wp2_with fail
                        refine (C.out _).mono ?_; rintro x w2 ⟨rfl, u2⟩
                        have U2 := Lib.hid (UJ.out.trans u2)
                        clear u2
                        cases s
                        · have hok : ok = false := by rw [TT.out, show al = false by rw [S'.out]; rfl]; rfl
                          go_wp2; go_ret
                          exact ⟨ret_bool (by rw [← HB.out, hok]), UA.out.trans U2.out⟩
                        · have AL := Lib.hid (show (es.drop (p + 1)).all (fun e => sndB e many) = al by rw [S'.out, Bool.true_and])
                          go_wp2
                          go_roundw
                          case rel => exact ⟨⟨p + 1, by omega, by first | rfl | go_num, AL⟩, U2.out⟩
                          case measure => (simp [intOf]; try omega)
                      · have hal : al = true := HA.out.symm.trans (AE.out es p (by rw [LE.out]; omega))
                        have T2 := Lib.hid (show rulesB many kd (rs.drop (q + 1)) = res by rw [← HB.out, TT.out, hal, Bool.true_and])
                        have i6 : ¬ (p : Int) < n3 := by omega
                        clear hal; go_wp2
                        go_roundw
                        case rel => exact ⟨⟨q + 1, kd, by omega, by first | rfl | go_num, NB, T2⟩, UA.out.trans UJ.out⟩
                        case measure => (simp [intOf]; try omega)
                  · have j5 : (2 : Int) < n3 := by omega
                    go_wp2_with fail
                    refine region_qw (by kernel_rfl) (by kernel_rfl) ?_; refine qWalk_step ?_; intro K hK; go_simp; apply Exists.intro; refine And.intro ?_ ?_
                    · intro w1 hw1
                      try go_simp
                      try rfl
                    try go_simp
                    refine hK _ ?_; clear hK K; refine qWalk_step ?_; intro K hK; go_simp; apply Exists.intro; refine And.intro ?_ ?_
                    · intro w1 hw1
                      obtain ⟨hc, hf, hz⟩ := hw1.facts
                      try simp at hz
                      try go_simp
                      try rfl
                    try go_simp
                    refine hK _ ?_; clear hK K; refine qWalk_step ?_; intro K hK; go_simp; apply Exists.intro; refine And.intro ?_ ?_
                    · intro w1 hw1
                      try go_simp
                      exact up_call hw1 (L1.out kd 0 2 _ _ h1)
                    try go_simp
                    iterate 10
                      refine hK _ ?_; clear hK K; refine qWalk_step ?_; intro K hK; go_simp; apply Exists.intro; refine And.intro ?_ ?_
                      · intro w1 hw1
                        try go_simp
                        try rfl
                      try go_simp
                    refine hK _ ?_; clear hK K; refine qWalk_step ?_; intro K hK; go_simp; apply Exists.intro; refine And.intro ?_ ?_
                    · intro w1 hw1
                      obtain ⟨hc, hf, hz⟩ := hw1.facts
                      try simp at hz
                      try go_simp
                      try rfl
                    try go_simp
                    refine hK _ ?_; clear hK K; refine qWalk_step ?_; intro K hK; go_simp; apply Exists.intro; refine And.intro ?_ ?_
                    · intro w1 hw1
                      try go_simp
                      try rfl
                    try go_simp
                    refine hK _ ?_; clear hK K; refine qWalk_step ?_; intro K hK; go_simp; apply Exists.intro; refine And.intro ?_ ?_
                    · intro w1 hw1
                      obtain ⟨hc, hf, hz⟩ := hw1.facts
                      try simp at hz
                      try go_simp
                      try rfl
                    try go_simp
                    iterate 5
                      refine hK _ ?_; clear hK K; refine qWalk_step ?_; intro K hK; go_simp; apply Exists.intro; refine And.intro ?_ ?_
                      · intro w1 hw1
                        try go_simp
                        try rfl
                      try go_simp
                    refine hK _ ?_; clear hK K; refine qWalk_step ?_; intro K hK; go_simp; apply Exists.intro; refine And.intro ?_ ?_
                    · intro w1 hw1
                      obtain ⟨hc, hf, hz⟩ := hw1.facts
                      try simp at hz
                      try go_simp
                      try rfl
                    try go_simp
                    refine hK _ ?_; clear hK K; refine qWalk_step ?_; intro K hK; go_simp; apply Exists.intro; refine And.intro ?_ ?_
                    · intro w1 hw1
                      try go_simp
                      exact up_call hw1 (L1.out ra 0 96 _ _ h2)
                    try go_simp
                    iterate 4
                      refine hK _ ?_; clear hK K; refine qWalk_step ?_; intro K hK; go_simp; apply Exists.intro; refine And.intro ?_ ?_
                      · intro w1 hw1
                        try go_simp
                        try rfl
                      try go_simp
                    refine hK _ ?_; clear hK K; refine qWalk_step ?_; intro K hK; go_simp; apply Exists.intro; refine And.intro ?_ ?_
                    · intro w1 hw1
                      obtain ⟨hc, hf, hz⟩ := hw1.facts
                      try simp at hz
                      try go_simp
                      try rfl
                    try go_simp
                    refine hK _ ?_; clear hK K; refine qWalk_step ?_; intro K hK; go_simp; apply Exists.intro; refine And.intro ?_ ?_
                    · intro w1 hw1
                      try go_simp
                      exact up_call hw1 (L1.out rb 0 96 _ _ h3)
                    try go_simp
                    iterate 4
                      refine hK _ ?_; clear hK K; refine qWalk_step ?_; intro K hK; go_simp; apply Exists.intro; refine And.intro ?_ ?_
                      · intro w1 hw1
                        try go_simp
                        try rfl
                      try go_simp
                    refine hK _ ?_; clear hK K; refine qWalk_step ?_; intro K hK; go_simp; apply Exists.intro; refine And.intro ?_ ?_
                    · intro w1 hw1
                      obtain ⟨hc, hf, hz⟩ := hw1.facts
                      try simp at hz
                      try go_simp
                      try rfl
                    try go_simp
                    refine hK _ ?_; clear hK K; refine qWalk_step ?_; intro K hK; go_simp; apply Exists.intro; refine And.intro ?_ ?_
                    · intro w1 hw1
                      try go_simp
                      exact up_call hw1 (L1.out rc 0 96 _ _ h4)
                    try go_simp
                    iterate 4
                      refine hK _ ?_; clear hK K; refine qWalk_step ?_; intro K hK; go_simp; apply Exists.intro; refine And.intro ?_ ?_
                      · intro w1 hw1
                        try go_simp
                        try rfl
                      try go_simp
                    refine hK _ ?_; clear hK K; refine qWalk_step ?_; intro K hK; go_simp; apply Exists.intro; refine And.intro ?_ ?_
                    · intro w1 hw1
                      obtain ⟨hc, hf, hz⟩ := hw1.facts
                      try simp at hz
                      try go_simp
                      try rfl
                    try go_simp
                    iterate 3
                      refine hK _ ?_; clear hK K; refine qWalk_step ?_; intro K hK; go_simp; apply Exists.intro; refine And.intro ?_ ?_
                      · intro w1 hw1
                        try go_simp
                        try rfl
                      try go_simp
                    refine hK _ ?_; clear hK K; refine qWalk_nil ?_; intro wA uA
                    have UA := Lib.hid ((HW.out.alloc _).trans uA)
                    have hok : ok = false := by rw [T.out, decide_eq_false (show ¬ (n3 : Int) ≤ 2 by omega)]; simp
                    clear uA; go_wp2; go_ret
                    exact ⟨ret_bool (by rw [← HB.out, hok]), UA.out⟩
          · have j9 : kd ≤ bf := by omega
            go_wp2_with fail
            refine region_qw (by kernel_rfl) (by kernel_rfl) ?_; refine qWalk_step ?_; intro K hK; go_simp; apply Exists.intro; refine And.intro ?_ ?_
            · intro w1 hw1
              try go_simp
              try rfl
            try go_simp
            refine hK _ ?_; clear hK K; refine qWalk_step ?_; intro K hK; go_simp; apply Exists.intro; refine And.intro ?_ ?_
            · intro w1 hw1
              obtain ⟨hc, hf, hz⟩ := hw1.facts
              try simp at hz
              try go_simp
              try rfl
            try go_simp
            refine hK _ ?_; clear hK K; refine qWalk_step ?_; intro K hK; go_simp; apply Exists.intro; refine And.intro ?_ ?_
            · intro w1 hw1
              try go_simp
              exact up_call hw1 (L1.out kd 0 2 _ _ h1)
            try go_simp
            iterate 10
              refine hK _ ?_; clear hK K; refine qWalk_step ?_; intro K hK; go_simp; apply Exists.intro; refine And.intro ?_ ?_
              · intro w1 hw1
                try go_simp
                try rfl
              try go_simp
            refine hK _ ?_; clear hK K; refine qWalk_step ?_; intro K hK; go_simp; apply Exists.intro; refine And.intro ?_ ?_
            · intro w1 hw1
              obtain ⟨hc, hf, hz⟩ := hw1.facts
              try simp at hz
              try go_simp
              try rfl
            try go_simp
            refine hK _ ?_; clear hK K; refine qWalk_step ?_; intro K hK; go_simp; apply Exists.intro; refine And.intro ?_ ?_
            · intro w1 hw1
              try go_simp
              try rfl
            try go_simp
            refine hK _ ?_; clear hK K; refine qWalk_step ?_; intro K hK; go_simp; apply Exists.intro; refine And.intro ?_ ?_
            · intro w1 hw1
              obtain ⟨hc, hf, hz⟩ := hw1.facts
              try simp at hz
              try go_simp
              try rfl
            try go_simp
            iterate 4
              refine hK _ ?_; clear hK K; refine qWalk_step ?_; intro K hK; go_simp; apply Exists.intro; refine And.intro ?_ ?_
              · intro w1 hw1
                try go_simp
                try rfl
              try go_simp
            iterate 5
              refine hK _ ?_; clear hK K; refine qWalk_step ?_; intro K hK; go_simp
            iterate 2
              apply Exists.intro; refine And.intro ?_ ?_
              · intro w1 hw1
                try go_simp
                try rfl
              try go_simp
              refine hK _ ?_; clear hK K; refine qWalk_step ?_; intro K hK; go_simp
            iterate 4
              refine hK _ ?_; clear hK K; refine qWalk_step ?_; intro K hK; go_simp
            iterate 2
              apply Exists.intro; refine And.intro ?_ ?_
              · intro w1 hw1
                try go_simp
                try rfl
              try go_simp
              refine hK _ ?_; clear hK K; refine qWalk_step ?_; intro K hK; go_simp
            iterate 4
              refine hK _ ?_; clear hK K; refine qWalk_step ?_; intro K hK; go_simp
            iterate 2
              apply Exists.intro; refine And.intro ?_ ?_
              · intro w1 hw1
                try go_simp
                try rfl
              try go_simp
              refine hK _ ?_; clear hK K; refine qWalk_step ?_; intro K hK; go_simp
            iterate 4
              refine hK _ ?_; clear hK K; refine qWalk_step ?_; intro K hK; go_simp
            apply Exists.intro; refine And.intro ?_ ?_
            · intro w1 hw1
              try go_simp
              try rfl
            try go_simp
            refine hK _ ?_; clear hK K; refine qWalk_nil ?_; intro wA uA
            have UA := Lib.hid ((HW.out.alloc _).trans uA)
            have hok : ok = false := by rw [T.out, decide_eq_false (show ¬ bf < kd by omega)]; simp
            clear uA; go_wp2; go_ret
            exact ⟨ret_bool (by rw [← HB.out, hok]), UA.out⟩
    · have hok : res = true := HB.out.symm.trans (RE.out bf rs q (by rw [LR.out]; omega))
      have i4 : ¬ (q : Int) < n := by omega
      clear ur; go_wp2; go_ret
      exact ⟨ret_bool (by first | rfl | exact hok.symm), HW.out⟩
end Go.Proofs.Ytakmlfgkppekoaa

/-
  What impl.RevBack returns, in one sentence: the component ahead of all events and true, or the zero state and false; for every model, component and row of events in memory.
-/
import Derived.Test.YtakmlfgkppekoaaDLCud15
import Derived.Test.YtakmlfgkppekoaaDLCud24
import Derived.Test.YtakmlfgkppekoaaDLCud25
import Derived.Test.YtakmlfgkppekoaaDLCud31
namespace Go.Proofs.Ytakmlfgkppekoaa
set_option maxRecDepth 100000
open Go.RowKit Go.Shelf
attribute [local go_sem] Oper.semAt_some
theorem backward_any (A : Option Addr) (n c : Nat) (w : World) :
    Calls Try.prog 76 #[.slice A n c] w fun x w' => x = .returned (.func (.func 113) #[] #[.pointer (some ⟨w.heap.size, 0, none⟩)]) ∧ w' = w.alloc (.cells #[.slice A n c] 31) := by
  go_enter Try.func76, Try.ntmps76
  go_wp2
  exact bodyPost_ret (v := .func (.func 113) #[] #[.pointer (some ⟨w.heap.size, 0, none⟩)]) (by simp [results, Try.results76, go_sem]) rfl ⟨rfl, rfl⟩
theorem bwd_stops (n : Nat) (hn : 1 ≤ n) (n0 Bs : Nat) (A : Option Addr) (len cap : Nat) (es : List Evt) (w : World) (hE : Evs w A len es) (hlen : len ≤ 1048576) (hA0 : 0 < len → ∀ b off, A = some ⟨b, off, none⟩ → b < n0) (hn0 : n0 ≤ w.heap.size) (hbs : Bs < w.heap.size) (hBs : w.heap[Bs]? = some (.cells #[.slice A len cap] 31 (0, 0))) :
    SeqStopsK Fence.wide n Try.prog 113 #[.pointer (some ⟨Bs, 0, none⟩)] (fun x : Int × Evt => #[.int .i64 x.1, x.2.v]) (KpB n0 Bs) (fun ys => ys = bwdL es len) (fun pre => ∃ k, k ≤ len ∧ pre = bwdL es k) len w := fun l J Jx W hW _ _ hY h0 =>
  bwd1_in Fence.wide n trivial rfl hn l n0 Bs A len cap es w hE hlen hA0 hn0 hbs hBs J Jx hY W ⟨hW.mono hn0, hW.block Bs hbs⟩ hW.size h0
/-- Between two rounds: the component so far, all is well, and all else is as it was. -/
structure RbI (w Wl : World) (b4 b9 : Nat) (m : Mdl) (c0 : Cst) (pre : List (Int × Evt)) (W : World) : Prop where
  st : ∃ c, backE m c0 (pre.map Prod.snd) = some c ∧ cstB c = true ∧ c.ct ≤ 9223372036854775807 ∧ W.heap[b4]? = some (.cells #[.int .i64 c.s, .int .i64 c.sq, .int .i64 c.ct] 41 (0, 0))
  ok : W.heap[b9]? = some (.cells #[.bool true] 4 (0, 0))
  keep : ∀ k, k < Wl.heap.size → k ≠ b4 → k ≠ b9 → W.heap[k]? = Wl.heap[k]?
  below : Below w.heap.size w W
  size : Wl.heap.size ≤ W.heap.size
theorem RbI.own {w Wl : World} {b4 b9 : Nat} {m : Mdl} {c0 : Cst} (hw : w.heap.size ≤ Wl.heap.size) (h4 : b4 < Wl.heap.size) (h9 : b9 < Wl.heap.size) : OwnFrom Wl.heap.size (RbI w Wl b4 b9 m c0) := fun s W W' row h hg hr => by
  have hb : ∀ k, k < Wl.heap.size → W'.heap[k]? = W.heap[k]? := fun k hk => hg.block k (Nat.lt_of_lt_of_le hk h.size) (fun e => by have := (hr k e.symm).1; omega)
  obtain ⟨c, h1, h2, h3, h5⟩ := h.st
  exact ⟨⟨c, h1, h2, h3, (hb b4 h4).trans h5⟩, (hb b9 h9).trans h.ok, fun k hk n4 n9 => (hb k hk).trans (h.keep k hk n4 n9), h.below.grown hg (by have := h.size; omega) (fun k e => by have := (hr k e).1; omega), Nat.le_trans h.size hg.size⟩
/-- Where a round has left: the zero state and false lie in the results' cells. -/
structure RbX (w Wl : World) (b6 b7 : Nat) (m : Mdl) (c0 : Cst) (pre : List (Int × Evt)) (W : World) : Prop where
  st : backE m c0 (pre.map Prod.snd) = none
  r6 : W.heap[b6]? = some (.cells #[.int .i64 0, .int .i64 0, .int .i64 0] 41 (0, 0))
  r7 : W.heap[b7]? = some (.cells #[.bool false] 4 (0, 0))
  below : Below w.heap.size w W
  size : Wl.heap.size ≤ W.heap.size
theorem RbX.own {w Wl : World} {b6 b7 : Nat} {m : Mdl} {c0 : Cst} (hw : w.heap.size ≤ Wl.heap.size) (h6 : b6 < Wl.heap.size) (h7 : b7 < Wl.heap.size) : OwnFrom Wl.heap.size (RbX w Wl b6 b7 m c0) := fun s W W' row h hg hr => by
  have hb : ∀ k, k < Wl.heap.size → W'.heap[k]? = W.heap[k]? := fun k hk => hg.block k (Nat.lt_of_lt_of_le hk h.size) (fun e => by have := (hr k e.symm).1; omega)
  exact ⟨h.st, (hb b6 h6).trans h.r6, (hb b7 h7).trans h.r7, h.below.grown hg (by have := h.size; omega) (fun k e => by have := (hr k e).1; omega), Nat.le_trans h.size hg.size⟩
set_option maxHeartbeats 8000000 in
theorem implBack_any (A : Option Addr) (n c : Nat) (B : Option Addr) (k d : Nat) (m : Mdl) (cs : Cst) (hI : cs.ct ≤ 9223372036854775807) (L : Option Addr) (len cap : Nat) (es : List Evt) (w : World) (hM : MdlV w A n B k m) (hE : Evs w L len es) :
    Calls Try.prog 31 #[.agg #[.slice A n c, .slice B k d, .int .i64 m.til], cs.v, .slice L len cap] w fun x w' => x = .returned (undoR (backM m cs es)) ∧ Up w w' := by
  have HM := Lib.hid hM
  have HE := Lib.hid hE
  clear hM hE; refine (callsIn_wide (n := 8)).1 ?_; obtain ⟨ss, sq, st⟩ := cs
  have CC := Lib.hid (fun W => implCst_any ⟨ss, sq, st⟩ W)
  unfold Cst.v at CC ⊢; dsimp only at CC hI ⊢
  have BM := Lib.hid (show backM m ⟨ss, sq, st⟩ es = if (mdlB m && cstB ⟨ss, sq, st⟩ && decide (es.length ≤ 100)) = true then backE m ⟨ss, sq, st⟩ es.reverse else none from rfl)
  generalize backM m ⟨ss, sq, st⟩ es = res at BM ⊢
  refine callsIn_of_wp_marks Try.func31 rfl trivial ?_ rfl; simp only [Try.ntmps31, List.size_toArray, List.length_cons, List.length_nil, Nat.reduceAdd, Nat.reduceSub, Array.replicate_succ, Array.replicate_zero, List.push_toArray, List.append_toArray, List.nil_append, List.cons_append]
  have NM := Lib.hid (fun W (u : Up w W) => newMachine_at A n c B k d m w W u HM.out)
  have U0 := Lib.hid (((((Up.refl w).alloc (.cells #[.slice A n c, .slice B k d, .int .i64 m.til] 33)).alloc (.cells #[.int .i64 ss, .int .i64 sq, .int .i64 st] 41)).alloc (.cells #[.int .i64 0, .int .i64 0, .int .i64 0] 41)).alloc (.cells #[.bool false] 4))
  have X4 := Lib.hid (((Blk.new (w.alloc (.cells #[.slice A n c, .slice B k d, .int .i64 m.til] 33)) #[.int .i64 ss, .int .i64 sq, .int .i64 st] 41).alloc (.cells #[.int .i64 0, .int .i64 0, .int .i64 0] 41)).alloc (.cells #[.bool false] 4))
  have X6 := Lib.hid ((Blk.new ((w.alloc (.cells #[.slice A n c, .slice B k d, .int .i64 m.til] 33)).alloc (.cells #[.int .i64 ss, .int .i64 sq, .int .i64 st] 41)) #[.int .i64 0, .int .i64 0, .int .i64 0] 41).alloc (.cells #[.bool false] 4))
  have X7 := Lib.hid (Blk.new (((w.alloc (.cells #[.slice A n c, .slice B k d, .int .i64 m.til] 33)).alloc (.cells #[.int .i64 ss, .int .i64 sq, .int .i64 st] 41)).alloc (.cells #[.int .i64 0, .int .i64 0, .int .i64 0] 41)) #[.bool false] 4)
  simp only [World.size_alloc] at X4 X6 X7
  gi_wp2_with fail
  generalize (((w.alloc (.cells #[.slice A n c, .slice B k d, .int .i64 m.til] 33)).alloc (.cells #[.int .i64 ss, .int .i64 sq, .int .i64 st] 41)).alloc (.cells #[.int .i64 0, .int .i64 0, .int .i64 0] 41)).alloc (.cells #[.bool false] 4) = W1 at *
  generalize hb3 : w.heap.size = b3 at *
  generalize hb4 : b3 + 1 = b4 at *
  generalize hb6 : b4 + 1 = b6 at *
  generalize hb7 : b6 + 1 = b7 at *
  have BB := Lib.hid (show w.heap.size ≤ b4 ∧ w.heap.size ≤ b6 ∧ w.heap.size ≤ b7 ∧ b4 ≠ b6 ∧ b4 ≠ b7 ∧ b6 ≠ b7 from by omega)
  have BL := Lib.hid (And.intro X4.out.lt (And.intro X6.out.lt X7.out.lt))
  refine ⟨trivial, (callsIn_wide.2 (NM.out _ U0.out)).mono ?_⟩; rintro x w1 ⟨u1, hpost⟩
  have U1 := Lib.hid (U0.out.trans u1)
  replace X4 := Lib.hid (X4.out.up u1)
  replace X6 := Lib.hid (X6.out.up u1)
  replace X7 := Lib.hid (X7.out.up u1)
  have S1 := Lib.hid u1.size
  clear u1 NM
  rcases hpost with ⟨hmb, rfl⟩ | ⟨hmb, mb, rfl, hmb1, hmb2, hma⟩
  · have EQ := Lib.hid (show res = none from by rw [BM.out, hmb]; rfl)
    have UA := Lib.hid ((U1.out.alloc (.cells #[.map none, .int .i64 0, .int .i64 0] 106)).alloc (.cells #[.bool false] 4))
    have X6 := Lib.hid ((X6.out.alloc (.cells #[.map none, .int .i64 0, .int .i64 0] 106)).alloc (.cells #[.bool false] 4))
    have X7 := Lib.hid ((X7.out.alloc (.cells #[.map none, .int .i64 0, .int .i64 0] 106)).alloc (.cells #[.bool false] 4))
    clear BM hmb; obtain ⟨d0, d1, d2⟩ := And.intro (X6.out.cell (j := 0) rfl) (And.intro (X6.out.cell (j := 1) rfl) (X6.out.cell (j := 2) rfl))
    have df := X6.out.frozen
    have dl := X6.out.lt
    have e0 := X7.out.cell (j := 0) rfl
    have ef := X7.out.frozen
    have el := X7.out.lt
    have bb := BB.out
    have Q6 := Lib.hid ((((X6.out.set 0 (.int .i64 0)).set 1 (.int .i64 0)).set 2 (.int .i64 0)).far (b' := b7) 0 (.bool false) (by omega))
    have Q7 := Lib.hid ((((X7.out.far (b' := b6) 0 (.int .i64 0) (by omega)).far (b' := b6) 1 (.int .i64 0) (by omega)).far (b' := b6) 2 (.int .i64 0) (by omega)).set 0 (.bool false))
    obtain ⟨k0, k1, k2⟩ := And.intro (Q6.out.cell (j := 0) rfl) (And.intro (Q6.out.cell (j := 1) rfl) (Q6.out.cell (j := 2) rfl))
    have k7 := Q7.out.cell (j := 0) rfl
    have UE := Lib.hid ((((UA.out.setCell (p := ⟨b6, 0, none⟩) bb.2.1 (.int .i64 0)).setCell (p := ⟨b6, 1, none⟩) bb.2.1 (.int .i64 0)).setCell (p := ⟨b6, 2, none⟩) bb.2.1 (.int .i64 0)).setCell (p := ⟨b7, 0, none⟩) bb.2.2.1 (.bool false))
    clear bb
    gi_wp2_with fail
    refine ⟨trivial, ?_⟩
    gi_wp2
    exact ⟨.tuple #[.agg #[.int .i64 0, .int .i64 0, .int .i64 0], .bool false], by simp [results, Try.results31, go_sem, k0, k1, k2, k7], by rw [EQ.out]; rfl, UE.out⟩
  · have UA := Lib.hid ((U1.out.alloc (.cells #[.map (some mb), .int .i64 m.rules.length, .int .i64 m.til] 106)).alloc (.cells #[.bool true] 4))
    replace X4 := Lib.hid ((X4.out.alloc (.cells #[.map (some mb), .int .i64 m.rules.length, .int .i64 m.til] 106)).alloc (.cells #[.bool true] 4))
    replace X6 := Lib.hid ((X6.out.alloc (.cells #[.map (some mb), .int .i64 m.rules.length, .int .i64 m.til] 106)).alloc (.cells #[.bool true] 4))
    replace X7 := Lib.hid ((X7.out.alloc (.cells #[.map (some mb), .int .i64 m.rules.length, .int .i64 m.til] 106)).alloc (.cells #[.bool true] 4))
    have X8 := Lib.hid ((Blk.new w1 #[.map (some mb), .int .i64 m.rules.length, .int .i64 m.til] 106).alloc (.cells #[.bool true] 4))
    have X9 := Lib.hid (Blk.new (w1.alloc (.cells #[.map (some mb), .int .i64 m.rules.length, .int .i64 m.til] 106)) #[.bool true] 4)
    have MBW := Lib.hid (show ((w1.alloc (.cells #[.map (some mb), .int .i64 m.rules.length, .int .i64 m.til] 106)).alloc (.cells #[.bool true] 4)).heap[mb]? = w1.heap[mb]? from (((Up.refl w1).alloc _).alloc _).below.block mb hmb2)
    have HMA := Lib.hid hma
    have HMB := Lib.hid hmb
    simp only [World.size_alloc] at X9
    generalize hcst : cstB ⟨ss, sq, st⟩ = cb at CC BM
    have HCB := Lib.hid hcst
    clear hma hmb hcst; obtain ⟨g0, g1, g2⟩ := And.intro (X4.out.cell (j := 0) rfl) (And.intro (X4.out.cell (j := 1) rfl) (X4.out.cell (j := 2) rfl))
    have gl := X4.out.lt
    have h9 := X9.out.cell (j := 0) rfl
    have h9l := X9.out.lt
    gi_wp2_with fail
    generalize hb8 : w1.heap.size = b8 at *
    generalize hb9 : b8 + 1 = b9 at *
    refine ⟨trivial, (callsIn_wide.2 (CC.out _)).mono ?_⟩; rintro x w2 ⟨rfl, u2⟩
    replace UA := Lib.hid (UA.out.trans u2)
    replace X4 := Lib.hid (X4.out.up u2)
    replace X6 := Lib.hid (X6.out.up u2)
    replace X7 := Lib.hid (X7.out.up u2)
    replace X8 := Lib.hid (X8.out.up u2)
    replace X9 := Lib.hid (X9.out.up u2)
    have M2 := Lib.hid ((u2.below.block mb (by simp; omega)).trans MBW.out)
    clear u2 g0 g1 g2 gl h9 h9l CC MBW
    cases cb
    · have EQ := Lib.hid (show res = none by rw [BM.out, HMB.out]; rfl)
      clear BM; obtain ⟨d0, d1, d2⟩ := And.intro (X6.out.cell (j := 0) rfl) (And.intro (X6.out.cell (j := 1) rfl) (X6.out.cell (j := 2) rfl))
      have df := X6.out.frozen
      have dl := X6.out.lt
      have e0 := X7.out.cell (j := 0) rfl
      have ef := X7.out.frozen
      have el := X7.out.lt
      have bb := BB.out
      have Q6 := Lib.hid ((((X6.out.set 0 (.int .i64 0)).set 1 (.int .i64 0)).set 2 (.int .i64 0)).far (b' := b7) 0 (.bool false) (by omega))
      have Q7 := Lib.hid ((((X7.out.far (b' := b6) 0 (.int .i64 0) (by omega)).far (b' := b6) 1 (.int .i64 0) (by omega)).far (b' := b6) 2 (.int .i64 0) (by omega)).set 0 (.bool false))
      obtain ⟨k0, k1, k2⟩ := And.intro (Q6.out.cell (j := 0) rfl) (And.intro (Q6.out.cell (j := 1) rfl) (Q6.out.cell (j := 2) rfl))
      have k7 := Q7.out.cell (j := 0) rfl
      have UE := Lib.hid ((((UA.out.setCell (p := ⟨b6, 0, none⟩) bb.2.1 (.int .i64 0)).setCell (p := ⟨b6, 1, none⟩) bb.2.1 (.int .i64 0)).setCell (p := ⟨b6, 2, none⟩) bb.2.1 (.int .i64 0)).setCell (p := ⟨b7, 0, none⟩) bb.2.2.1 (.bool false))
      clear bb
      gi_wp2
      exact ⟨.tuple #[.agg #[.int .i64 0, .int .i64 0, .int .i64 0], .bool false], by simp [results, Try.results31, go_sem, k0, k1, k2, k7], by rw [EQ.out]; rfl, UE.out⟩
    · by_cases hlen : len ≤ 100
      · have i4 : ¬ (100 : Int) < len := by omega
        have EQ := Lib.hid (show res = backE m ⟨ss, sq, st⟩ es.reverse by
          rw [BM.out, HMB.out, decide_eq_true (show es.length ≤ 100 by rw [HE.out.1]; exact hlen)]
          rfl)
        clear BM
        gi_wp2_with fail
        refine ⟨trivial, (callsIn_wide.2 (backward_any _ _ _ _)).mono ?_⟩; rintro x w3 ⟨rfl, rfl⟩
        gi_wp2
        have bw2 : b9 < w2.heap.size := X9.out.lt
        obtain ⟨Wl, hWl⟩ : ∃ W, w2.alloc (.cells #[.slice L len cap] 31) = W := ⟨_, rfl⟩
        have UL := Lib.hid (show Up w Wl from hWl ▸ UA.out.alloc _)
        have XS := Lib.hid (show Blk Wl w2.heap.size 31 #[.slice L len cap] from hWl ▸ Blk.new w2 _ _)
        replace X4 := Lib.hid (show Blk Wl b4 _ _ from hWl ▸ X4.out.alloc _)
        replace X6 := Lib.hid (show Blk Wl b6 _ _ from hWl ▸ X6.out.alloc _)
        replace X7 := Lib.hid (show Blk Wl b7 _ _ from hWl ▸ X7.out.alloc _)
        replace X8 := Lib.hid (show Blk Wl b8 _ _ from hWl ▸ X8.out.alloc _)
        replace X9 := Lib.hid (show Blk Wl b9 _ _ from hWl ▸ X9.out.alloc _)
        have hmb8 : mb < b8 := by omega
        replace M2 := Lib.hid (show Wl.heap[mb]? = w1.heap[mb]? from hWl ▸ (((Up.refl w2).alloc _).below.block mb (by omega)).trans M2.out)
        have MB4 := Lib.hid (show mb ≠ b4 ∧ mb ≠ b9 ∧ mb < Wl.heap.size ∧ w.heap.size ≤ Wl.heap.size from by
          have h1 := BL.out
          have h2 := X9.out.lt
          have h3 := UL.out.size
          omega)
        have BS := Lib.hid (show w.heap.size ≤ b9 ∧ b9 ≠ b4 ∧ b9 ≠ b6 ∧ b9 ≠ b7 ∧ b8 ≠ b4 ∧ b8 ≠ b9 ∧ b4 < w2.heap.size ∧ b8 < w2.heap.size from by
          have h1 := BL.out
          have h2 := S1.out
          have h3 := BB.out
          omega)
        generalize hbS : w2.heap.size = bS at *
        rw [hWl]
        have SL := Lib.hid (And.intro X4.out.lt (And.intro X6.out.lt (And.intro X7.out.lt (And.intro X9.out.lt XS.out.lt))))
        have HEL := Lib.hid (HE.out.up UL.out)
        have hHA : 0 < len → ∀ b off, L = some ⟨b, off, none⟩ → b < w.heap.size := fun h0 b off e => by
          obtain ⟨b', off', e', hlt, _⟩ := HE.out.2 h0; rw [e] at e'
          injection e' with e'
          injection e' with e1
          omega
        clear hWl hbS
        refine wpIn_rangeFunc_ownH rfl (by omega) (gf := 113) (lb := #[.pointer (some ⟨bS, 0, none⟩)]) rfl trivial (enters_of Try.func113 (by kernel_rfl) rfl)
          (bwd_stops _ (by omega) w.heap.size bS L len cap es Wl HEL.out (by omega) hHA MB4.out.2.2.2 SL.out.2.2.2.2 XS.out) KpB.t (KpB.b MB4.out.2.2.2 SL.out.2.2.2.2) (Below.refl _ _) (fun _ => rfl)
          (RbI w Wl b4 b9 m ⟨ss, sq, st⟩) (fun j pre W => j = .ret ∧ RbX w Wl b6 b7 m ⟨ss, sq, st⟩ pre W)
          (RbI.own MB4.out.2.2.2 SL.out.1 SL.out.2.2.2.1)
          (fun j s W W' row h hg hr => ⟨h.1, RbX.own MB4.out.2.2.2 SL.out.2.1 SL.out.2.2.1 s W W' row h.2 hg hr⟩)
          ⟨⟨⟨ss, sq, st⟩, rfl, HCB.out, hI, X4.out⟩, X9.out, fun _ _ _ _ => rfl, UL.out, Nat.le_refl _⟩
          (fun x a' W => ∃ Bx, Wl.heap.size ≤ Bx ∧ W.heap[Bx]? = some (.cells #[.int .i64 x.2.t, .int .i64 x.2.to, .int .i64 x.2.fr, .int .i64 x.2.sq, .int .i64 x.2.kd, .int .i64 x.2.dt] 45 (0, 0)) ∧ a' = { tmps := #[.agg #[.slice A n c, .slice B k d, .int .i64 m.til], .agg #[.int .i64 ss, .int .i64 sq, .int .i64 st], .slice L len cap, .pointer (some ⟨b3, 0, none⟩), .pointer (some ⟨b4, 0, none⟩), undef, .pointer (some ⟨b6, 0, none⟩), .pointer (some ⟨b7, 0, none⟩), .pointer (some ⟨b8, 0, none⟩), .pointer (some ⟨b9, 0, none⟩), undef, .pointer (some ⟨Bx, 0, none⟩), .tuple #[.agg #[.map (some mb), .int .i64 m.rules.length, .int .i64 m.til], .bool true], .agg #[.slice A n c, .slice B k d, .int .i64 m.til], .tuple #[.agg #[.map (some mb), .int .i64 m.rules.length, .int .i64 m.til], .bool true], .agg #[.map (some mb), .int .i64 m.rules.length, .int .i64 m.til], .bool true, .bool true, .bool false, .bool false, .agg #[.int .i64 ss, .int .i64 sq, .int .i64 st], .bool true, .bool false, .bool false, .bool false, .slice L len cap, .int .i64 len, .bool (decide (100 < (len : Int))), .bool (decide (100 < (len : Int))), undef, .slice L len cap, .func (.func 113) #[] #[.pointer (some ⟨bS, 0, none⟩)], .int .i64 x.1, .agg #[.int .i64 x.2.t, .int .i64 x.2.to, .int .i64 x.2.fr, .int .i64 x.2.sq, .int .i64 x.2.kd, .int .i64 x.2.dt], undef, undef, undef, undef, undef, undef, undef, undef, undef, undef, undef], defers := [] })
          ?hAx ?assign ?body ?done ?stop
        case hAx =>
          rintro x a' s X Y row ⟨Bx, h1, h2, h3⟩ hg hr; refine ⟨Bx, h1, (hg.block Bx (Array.getElem?_eq_some_iff.1 h2).1 (fun e => ?_)).trans h2, h3⟩; obtain ⟨_, o, ho, hc⟩ := hr Bx e.symm; rw [h2] at ho
          cases ho
          cases hc
        case assign =>
          rintro l pre x W K hi hK; obtain ⟨xi, et, eto, efr, esq, ekd, edt⟩ := x; unfold Evt.v; dsimp only
          have hs := hi.size
          have hI2 := hi
          gi_wp2
          refine hK _ _ ((KeepsOthers.alloc _ _).from _) ⟨(Below.refl _ W).alloc (by have := MB4.out; omega) _, ((Up.refl W).alloc _).below.block bS (by have := SL.out; omega)⟩ ?_ ⟨W.heap.size, by omega, World.alloc_heap_new W _, rfl⟩
          exact (RbI.own MB4.out.2.2.2 SL.out.1 SL.out.2.2.2.1).alloc _ hI2
        case body =>
          rintro l pre x a' W hl ⟨r, hr⟩ hi ⟨Bx, hBx, hx, rfl⟩ hlt; obtain ⟨xi, et, eto, efr, esq, ekd, edt⟩ := x; dsimp only at hx ⊢; obtain ⟨⟨cs, cq, ct⟩, hb, hcv, hct, hx4⟩ := hi.st; dsimp only at hct hx4
          have Y4 := Lib.hid (show Blk W b4 41 #[.int .i64 cs, .int .i64 cq, .int .i64 ct] from hx4)
          have Y9 := Lib.hid (show Blk W b9 4 #[.bool true] from hi.ok)
          have Y8 := Lib.hid (show Blk W b8 _ _ from (hi.keep b8 X8.out.lt BS.out.2.2.2.2.1 BS.out.2.2.2.2.2.1).trans X8.out)
          have Y6 := Lib.hid (show Blk W b6 _ _ from (hi.keep b6 SL.out.2.1 (fun e => BB.out.2.2.2.1 e.symm) (fun e => BS.out.2.2.1 e.symm)).trans X6.out)
          have Y7 := Lib.hid (show Blk W b7 _ _ from (hi.keep b7 SL.out.2.2.1 (fun e => BB.out.2.2.2.2.1 e.symm) (fun e => BS.out.2.2.2.1 e.symm)).trans X7.out)
          have YX := Lib.hid (show Blk W Bx 45 #[.int .i64 et, .int .i64 eto, .int .i64 efr, .int .i64 esq, .int .i64 ekd, .int .i64 edt] from hx)
          have MM := Lib.hid (HMA.out.mach (show Up w W from hi.below) ((hi.keep mb MB4.out.2.2.1 MB4.out.1 MB4.out.2.1).trans M2.out))
          have CU := Lib.hid (undo_any mb m ⟨cs, cq, ct⟩ ⟨et, eto, efr, esq, ekd, edt⟩ W MM.out HMB.out hcv hct)
          have UOK := Lib.hid (fun y h => undoE_ok (m := m) (c := ⟨cs, cq, ct⟩) (e := ⟨et, eto, efr, esq, ekd, edt⟩) (x := y) HMB.out hcv h)
          have BAP := Lib.hid (show backE m ⟨ss, sq, st⟩ ((pre ++ [(xi, (⟨et, eto, efr, esq, ekd, edt⟩ : Evt))]).map Prod.snd) = (undoE m ⟨cs, cq, ct⟩ ⟨et, eto, efr, esq, ekd, edt⟩) from by
            rw [List.map_append, backE_app, hb]; simp only [Option.bind_some, List.map_cons, List.map_nil, backE]
            cases undoE m ⟨cs, cq, ct⟩ ⟨et, eto, efr, esq, ekd, edt⟩ <;> rfl)
          have HKP := Lib.hid hi.keep
          have UWW := Lib.hid (show Up w W from hi.below)
          have HSZ := Lib.hid hi.size
          generalize undoE m ⟨cs, cq, ct⟩ ⟨et, eto, efr, esq, ekd, edt⟩ = o at CU UOK BAP
          unfold Cst.v Evt.v at CU; dsimp only at CU; obtain ⟨p0, p1, p2⟩ := And.intro (Y8.out.cell (j := 0) rfl) (And.intro (Y8.out.cell (j := 1) rfl) (Y8.out.cell (j := 2) rfl)); obtain ⟨q0, q1, q2⟩ := And.intro (Y4.out.cell (j := 0) rfl) (And.intro (Y4.out.cell (j := 1) rfl) (Y4.out.cell (j := 2) rfl)); obtain ⟨z0, z1, z2⟩ := And.intro (YX.out.cell (j := 0) rfl) (And.intro (YX.out.cell (j := 1) rfl) (YX.out.cell (j := 2) rfl)); obtain ⟨z3, z4, z5⟩ := And.intro (YX.out.cell (j := 3) rfl) (And.intro (YX.out.cell (j := 4) rfl) (YX.out.cell (j := 5) rfl))
          have l8 := Y8.out.lt
          have l4 := Y4.out.lt
          have lx := YX.out.lt
          have bb := BB.out
          have bs := BS.out
          have sl := SL.out
          have mb4 := MB4.out
          cases o with
          | some y =>
            obtain ⟨ys, yq, yc⟩ := y
            have YK := Lib.hid (UOK.out _ rfl)
            unfold undoR Cst.v at CU; dsimp only at CU
            gi_wp2_with fail
            refine ⟨trivial, (CallsIn.inRound l (callsIn_wide.2 CU.out)).mono ?_⟩; rintro x w5 ⟨rfl, u5⟩
            have KF := Lib.hid (show KeepsFrom Wl.heap.size W w5 from ⟨u5.size, fun k o _ hk _ => (u5.below.block k (Array.getElem?_eq_some_iff.1 hk).1).trans hk⟩)
            have U5 := Lib.hid u5
            replace Y4 := Lib.hid (Y4.out.up u5)
            replace Y9 := Lib.hid (Y9.out.up u5)
            clear u5 p0 p1 p2 q0 q1 q2 z0 z1 z2 z3 z4 z5 l8 l4 lx CU MM; obtain ⟨q0, q1, q2⟩ := And.intro (Y4.out.cell (j := 0) rfl) (And.intro (Y4.out.cell (j := 1) rfl) (Y4.out.cell (j := 2) rfl))
            have qf := Y4.out.frozen
            have ql := Y4.out.lt
            have t0 := Y9.out.cell (j := 0) rfl
            have tf := Y9.out.frozen
            have tl := Y9.out.lt
            have Q4 := Lib.hid ((((Y4.out.set 0 (.int .i64 ys)).set 1 (.int .i64 yq)).set 2 (.int .i64 yc)).far (b' := b9) 0 (.bool true) (by omega))
            have Q9 := Lib.hid ((((Y9.out.far (b' := b4) 0 (.int .i64 ys) (by omega)).far (b' := b4) 1 (.int .i64 yq) (by omega)).far (b' := b4) 2 (.int .i64 yc) (by omega)).set 0 (.bool true))
            have k9 := Q9.out.cell (j := 0) rfl
            have OTH := Lib.hid (fun k (h4 : k ≠ b4) (h9 : k ≠ b9) => (((Below.heap_setCell (((w5.setCell ⟨b4, 0, none⟩ (.int .i64 ys)).setCell ⟨b4, 1, none⟩ (.int .i64 yq)).setCell ⟨b4, 2, none⟩ (.int .i64 yc)) ⟨b9, 0, none⟩ (.bool true) k h9).trans (Below.heap_setCell ((w5.setCell ⟨b4, 0, none⟩ (.int .i64 ys)).setCell ⟨b4, 1, none⟩ (.int .i64 yq)) ⟨b4, 2, none⟩ (.int .i64 yc) k h4)).trans (Below.heap_setCell (w5.setCell ⟨b4, 0, none⟩ (.int .i64 ys)) ⟨b4, 1, none⟩ (.int .i64 yq) k h4)).trans (Below.heap_setCell w5 ⟨b4, 0, none⟩ (.int .i64 ys) k h4))
            gi_wp2
            refine ⟨KF.out.trans (((((KeepsOthers.setCell _ _ _).trans (KeepsOthers.setCell _ _ _)).trans (KeepsOthers.setCell _ _ _)).trans (KeepsOthers.setCell _ _ _)).from _), ⟨?_, ?_⟩, ⟨⟨⟨ys, yq, yc⟩, BAP.out, YK.out.1, by have := YK.out.2; dsimp only at this ⊢; omega, Q4.out⟩, Q9.out, ?_, ?_, ?_⟩⟩
            · exact (((((Below.mono U5.out.below (by have := HSZ.out; omega)).setCell (p := ⟨b4, 0, none⟩) (by dsimp only; omega) _).setCell (p := ⟨b4, 1, none⟩) (by dsimp only; omega) _).setCell (p := ⟨b4, 2, none⟩) (by dsimp only; omega) _).setCell (p := ⟨b9, 0, none⟩) (by dsimp only; omega) _)
            · exact (OTH.out bS (by omega) (by omega)).trans (U5.out.below.block bS (by have := HSZ.out; omega))
            · exact fun k hk n4 n9 => ((OTH.out k n4 n9).trans (U5.out.below.block k (by have := HSZ.out; omega))).trans (HKP.out k hk n4 n9)
            · exact (((((UWW.out.trans U5.out).setCell (p := ⟨b4, 0, none⟩) (by dsimp only; omega) _).setCell (p := ⟨b4, 1, none⟩) (by dsimp only; omega) _).setCell (p := ⟨b4, 2, none⟩) (by dsimp only; omega) _).setCell (p := ⟨b9, 0, none⟩) (by dsimp only; omega) _)
            · have h1 := U5.out.size
              have h2 := HSZ.out
              simp
              omega
          | none =>
            unfold undoR at CU; dsimp only at CU
            gi_wp2_with fail
            refine ⟨trivial, (CallsIn.inRound l (callsIn_wide.2 CU.out)).mono ?_⟩; rintro x w5 ⟨rfl, u5⟩
            have KF := Lib.hid (show KeepsFrom Wl.heap.size W w5 from ⟨u5.size, fun k o _ hk _ => (u5.below.block k (Array.getElem?_eq_some_iff.1 hk).1).trans hk⟩)
            have U5 := Lib.hid u5
            replace Y4 := Lib.hid (Y4.out.up u5)
            replace Y9 := Lib.hid (Y9.out.up u5)
            replace Y6 := Lib.hid (Y6.out.up u5)
            replace Y7 := Lib.hid (Y7.out.up u5)
            clear u5 p0 p1 p2 q0 q1 q2 z0 z1 z2 z3 z4 z5 l8 l4 lx CU MM; obtain ⟨q0, q1, q2⟩ := And.intro (Y4.out.cell (j := 0) rfl) (And.intro (Y4.out.cell (j := 1) rfl) (Y4.out.cell (j := 2) rfl))
            have qf := Y4.out.frozen
            have ql := Y4.out.lt
            have t0 := Y9.out.cell (j := 0) rfl
            have tf := Y9.out.frozen
            have tl := Y9.out.lt
            obtain ⟨d0, d1, d2⟩ := And.intro (Y6.out.cell (j := 0) rfl) (And.intro (Y6.out.cell (j := 1) rfl) (Y6.out.cell (j := 2) rfl))
            have df := Y6.out.frozen
            have dl := Y6.out.lt
            have e0 := Y7.out.cell (j := 0) rfl
            have ef := Y7.out.frozen
            have el := Y7.out.lt
            have Q6 := Lib.hid ((((((((Y6.out.far (b' := b4) 0 (.int .i64 0) (by omega)).far (b' := b4) 1 (.int .i64 0) (by omega)).far (b' := b4) 2 (.int .i64 0) (by omega)).far (b' := b9) 0 (.bool false) (by omega)).set 0 (.int .i64 0)).set 1 (.int .i64 0)).set 2 (.int .i64 0)).far (b' := b7) 0 (.bool false) (by omega))
            have Q7 := Lib.hid ((((((((Y7.out.far (b' := b4) 0 (.int .i64 0) (by omega)).far (b' := b4) 1 (.int .i64 0) (by omega)).far (b' := b4) 2 (.int .i64 0) (by omega)).far (b' := b9) 0 (.bool false) (by omega)).far (b' := b6) 0 (.int .i64 0) (by omega)).far (b' := b6) 1 (.int .i64 0) (by omega)).far (b' := b6) 2 (.int .i64 0) (by omega)).set 0 (.bool false))
            have Q9 := Lib.hid ((((Y9.out.far (b' := b4) 0 (.int .i64 0) (by omega)).far (b' := b4) 1 (.int .i64 0) (by omega)).far (b' := b4) 2 (.int .i64 0) (by omega)).set 0 (.bool false))
            have k9 := Q9.out.cell (j := 0) rfl
            gi_wp2
            refine ⟨KF.out.trans (((((((((KeepsOthers.setCell _ _ _).trans (KeepsOthers.setCell _ _ _)).trans (KeepsOthers.setCell _ _ _)).trans (KeepsOthers.setCell _ _ _)).trans (KeepsOthers.setCell _ _ _)).trans (KeepsOthers.setCell _ _ _)).trans (KeepsOthers.setCell _ _ _)).trans (KeepsOthers.setCell _ _ _)).from _), rfl, ⟨BAP.out, Q6.out, Q7.out, ?_, ?_⟩⟩
            · exact (((((((((UWW.out.trans U5.out).setCell (p := ⟨b4, 0, none⟩) (by dsimp only; omega) _).setCell (p := ⟨b4, 1, none⟩) (by dsimp only; omega) _).setCell (p := ⟨b4, 2, none⟩) (by dsimp only; omega) _).setCell (p := ⟨b9, 0, none⟩) (by dsimp only; omega) _).setCell (p := ⟨b6, 0, none⟩) (by dsimp only; omega) _).setCell (p := ⟨b6, 1, none⟩) (by dsimp only; omega) _).setCell (p := ⟨b6, 2, none⟩) (by dsimp only; omega) _).setCell (p := ⟨b7, 0, none⟩) (by dsimp only; omega) _)
            · have h1 := U5.out.size
              have h2 := HSZ.out
              simp
              omega
        case done =>
          rintro D ys W hD rfl hi hK; obtain ⟨⟨cs, cq, ct⟩, hb, hcv, hct, hx4⟩ := hi.st
          have EV := bwdL_evs es
          rw [HE.out.1] at EV; rw [EV] at hb
          have EQ2 := Lib.hid (EQ.out.trans hb)
          dsimp only at hx4
          have bb := BB.out
          have sl := SL.out
          have bs := BS.out
          have mb4 := MB4.out
          have Y4 := Lib.hid (show Blk W b4 41 #[.int .i64 cs, .int .i64 cq, .int .i64 ct] from hx4)
          have Y6 := Lib.hid (show Blk W b6 _ _ from (hi.keep b6 sl.2.1 (fun e => bb.2.2.2.1 e.symm) (fun e => bs.2.2.1 e.symm)).trans X6.out)
          have Y7 := Lib.hid (show Blk W b7 _ _ from (hi.keep b7 sl.2.2.1 (fun e => bb.2.2.2.2.1 e.symm) (fun e => bs.2.2.2.1 e.symm)).trans X7.out)
          have UWW := Lib.hid (show Up w W from hi.below)
          clear hx4 hb hcv hct EV; obtain ⟨q0, q1, q2⟩ := And.intro (Y4.out.cell (j := 0) rfl) (And.intro (Y4.out.cell (j := 1) rfl) (Y4.out.cell (j := 2) rfl))
          have ql := Y4.out.lt
          obtain ⟨d0, d1, d2⟩ := And.intro (Y6.out.cell (j := 0) rfl) (And.intro (Y6.out.cell (j := 1) rfl) (Y6.out.cell (j := 2) rfl))
          have df := Y6.out.frozen
          have dl := Y6.out.lt
          have e0 := Y7.out.cell (j := 0) rfl
          have ef := Y7.out.frozen
          have el := Y7.out.lt
          have Q6 := Lib.hid ((((Y6.out.set 0 (.int .i64 cs)).set 1 (.int .i64 cq)).set 2 (.int .i64 ct)).far (b' := b7) 0 (.bool true) (by omega))
          have Q7 := Lib.hid ((((Y7.out.far (b' := b6) 0 (.int .i64 cs) (by omega)).far (b' := b6) 1 (.int .i64 cq) (by omega)).far (b' := b6) 2 (.int .i64 ct) (by omega)).set 0 (.bool true))
          have UE := Lib.hid ((((UWW.out.setCell (p := ⟨b6, 0, none⟩) bb.2.1 (.int .i64 cs)).setCell (p := ⟨b6, 1, none⟩) bb.2.1 (.int .i64 cq)).setCell (p := ⟨b6, 2, none⟩) bb.2.1 (.int .i64 ct)).setCell (p := ⟨b7, 0, none⟩) bb.2.2.1 (.bool true))
          have HKF := Lib.hid (((((KeepsOthers.setCell W ⟨b6, 0, none⟩ (.int .i64 cs)).trans (KeepsOthers.setCell _ ⟨b6, 1, none⟩ (.int .i64 cq))).trans (KeepsOthers.setCell _ ⟨b6, 2, none⟩ (.int .i64 ct))).trans (KeepsOthers.setCell _ ⟨b7, 0, none⟩ (.bool true))).same D _ hK rfl)
          have D6 := Lib.hid (show Blk (World.putObj _ D (.deferred none)) b6 _ _ from (World.putObj_heap_other (by omega)).trans Q6.out)
          have D7 := Lib.hid (show Blk (World.putObj _ D (.deferred none)) b7 _ _ from (World.putObj_heap_other (by omega)).trans Q7.out)
          obtain ⟨k0, k1, k2⟩ := And.intro (D6.out.cell (j := 0) rfl) (And.intro (D6.out.cell (j := 1) rfl) (D6.out.cell (j := 2) rfl))
          have k7 := D7.out.cell (j := 0) rfl
          have UF := Lib.hid (show Up w (World.putObj _ D (.deferred none)) from UE.out.below.trans (belowK_b (w := Wl) mb4.2.2.2 _ D _ (.deferred none) hD HKF.out rfl rfl))
          clear hK
          gi_wp2
          refine ⟨by simp, .inl ⟨_, _, rfl, run_takeDeferred HKF.out, ?_⟩⟩
          exact ⟨.tuple #[.agg #[.int .i64 cs, .int .i64 cq, .int .i64 ct], .bool true], by simp [results, Try.results31, go_sem, k0, k1, k2, k7], by rw [EQ2.out]; rfl, UF.out⟩
        case stop =>
          rintro D j pre W hD ⟨kk, hkk, hpre⟩ ⟨rfl, hX⟩ hK
          have hb := hX.st
          have EV := bwdL_evs es
          rw [HE.out.1] at EV
          have EQ2 := Lib.hid (show res = none by
            have h1 : es.reverse = pre.map Prod.snd ++ ((bwdL es len).drop kk).map Prod.snd := by
              rw [← EV, hpre, ← bwdL_take es kk len hkk, ← List.map_append, List.take_append_drop]
            rw [EQ.out, h1, backE_app, hb]
            rfl)
          have sl := SL.out
          have D6 := Lib.hid (show Blk (World.putObj W D (.deferred none)) b6 _ _ from (World.putObj_heap_other (by omega)).trans hX.r6)
          have D7 := Lib.hid (show Blk (World.putObj W D (.deferred none)) b7 _ _ from (World.putObj_heap_other (by omega)).trans hX.r7)
          obtain ⟨k0, k1, k2⟩ := And.intro (D6.out.cell (j := 0) rfl) (And.intro (D6.out.cell (j := 1) rfl) (D6.out.cell (j := 2) rfl))
          have k7 := D7.out.cell (j := 0) rfl
          have UF := Lib.hid (show Up w (World.putObj W D (.deferred none)) from hX.below.trans (belowK_b (w := Wl) MB4.out.2.2.2 W D _ (.deferred none) hD hK rfl rfl))
          have HK := Lib.hid hK
          clear hb EV hK
          gi_wp2
          refine ⟨by simp, .inl ⟨_, _, rfl, run_takeDeferred HK.out, ?_⟩⟩
          exact ⟨.tuple #[.agg #[.int .i64 0, .int .i64 0, .int .i64 0], .bool false], by simp [results, Try.results31, go_sem, k0, k1, k2, k7], by rw [EQ2.out]; rfl, UF.out⟩
      · have i4 : (100 : Int) < len := by omega
        have EQ := Lib.hid (show res = none by
          rw [BM.out, HMB.out, decide_eq_false (show ¬ es.length ≤ 100 by rw [HE.out.1]; exact hlen)]
          rfl)
        clear BM; obtain ⟨d0, d1, d2⟩ := And.intro (X6.out.cell (j := 0) rfl) (And.intro (X6.out.cell (j := 1) rfl) (X6.out.cell (j := 2) rfl))
        have df := X6.out.frozen
        have dl := X6.out.lt
        have e0 := X7.out.cell (j := 0) rfl
        have ef := X7.out.frozen
        have el := X7.out.lt
        have bb := BB.out
        have Q6 := Lib.hid ((((X6.out.set 0 (.int .i64 0)).set 1 (.int .i64 0)).set 2 (.int .i64 0)).far (b' := b7) 0 (.bool false) (by omega))
        have Q7 := Lib.hid ((((X7.out.far (b' := b6) 0 (.int .i64 0) (by omega)).far (b' := b6) 1 (.int .i64 0) (by omega)).far (b' := b6) 2 (.int .i64 0) (by omega)).set 0 (.bool false))
        obtain ⟨k0, k1, k2⟩ := And.intro (Q6.out.cell (j := 0) rfl) (And.intro (Q6.out.cell (j := 1) rfl) (Q6.out.cell (j := 2) rfl))
        have k7 := Q7.out.cell (j := 0) rfl
        have UE := Lib.hid ((((UA.out.setCell (p := ⟨b6, 0, none⟩) bb.2.1 (.int .i64 0)).setCell (p := ⟨b6, 1, none⟩) bb.2.1 (.int .i64 0)).setCell (p := ⟨b6, 2, none⟩) bb.2.1 (.int .i64 0)).setCell (p := ⟨b7, 0, none⟩) bb.2.2.1 (.bool false))
        clear bb
        gi_wp2
        exact ⟨.tuple #[.agg #[.int .i64 0, .int .i64 0, .int .i64 0], .bool false], by simp [results, Try.results31, go_sem, k0, k1, k2, k7], by rw [EQ.out]; rfl, UE.out⟩
end Go.Proofs.Ytakmlfgkppekoaa

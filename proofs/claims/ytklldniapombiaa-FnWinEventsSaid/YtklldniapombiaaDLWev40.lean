/-
  What the iterator of impl.machine.window yields, in one sentence: the events in order, as long as they are before the end of the window; for every loop over it that keeps what lay ahead.
-/
import Derived.Test.YtklldniapombiaaDLWev05
import Derived.Test.YtklldniapombiaaDLWev39
namespace Go.Proofs.Ytklldniapombiaa
set_option maxRecDepth 100000
open Go.RowKit Go.Shelf
attribute [local go_sem] Oper.semAt_some
/-- The events of a window of a width. -/
def winE (wd : Int) (es : List Evt) : List Evt := es.takeWhile (fun e => decide (e.t < (es.getD 0 default).t + wd))
theorem takeW_stop {p : Evt → Bool} : ∀ (es : List Evt) (k : Nat), k < es.length → (∀ j, j < k → p (es.getD j default) = true) → p (es.getD k default) = false → es.takeWhile p = es.take k
  | [], k, h, _, _ => absurd h (by simp)
  | e :: es, 0, _, _, h => by
    rw [List.takeWhile_cons, if_neg (by simpa using h)]
    rfl
  | e :: es, k + 1, hk, h1, h2 => by
    have h0 : p e = true := by simpa using h1 0 (by omega)
    rw [List.takeWhile_cons, if_pos h0, List.take_succ_cons, takeW_stop es k (by simpa using hk) (fun j hj => by simpa using h1 (j + 1) (by omega)) (by simpa using h2)]
theorem takeW_all {p : Evt → Bool} : ∀ (es : List Evt), (∀ j, j < es.length → p (es.getD j default) = true) → es.takeWhile p = es
  | [], _ => rfl
  | e :: es, h => by
    have h0 : p e = true := by simpa using h 0 (by simp)
    rw [List.takeWhile_cons, if_pos h0, takeW_all es (fun j hj => by simpa using h (j + 1) (by simpa using hj))]
theorem take_getD (es : List Evt) (k : Nat) (h : k < es.length) : es.take (k + 1) = es.take k ++ [es.getD k default] := by
  rw [List.take_succ_eq_append_getElem h]; simp [h]
set_option maxHeartbeats 8000000 in
theorem wnd1_in (F : Fence) (n : Nat) (h7 : F.fn 137) (hro : F.round = none) (hn : 1 ≤ n) (l Bs Bd : Nat) (A : Option Addr) (len cap : Nat) (wd : Int) (hwd : 0 ≤ wd ∧ wd ≤ 1000) (es : List Evt) (w0 : World) (hE : Evs w0 A len es) (hlen : len ≤ 1048576) (ht : ∀ j, j < len → 0 ≤ (es.getD j default).t ∧ (es.getD j default).t ≤ 1000)
    (hbs : Bs < w0.heap.size) (hbd : Bd < w0.heap.size) (hBs : w0.cell? ⟨Bs, 0, none⟩ = some (.slice A len cap)) (hBd : w0.cell? ⟨Bd, 0, none⟩ = some (.int .i64 wd)) (J Jx : List Evt → World → Prop)
    (hY : ∀ pre x W, J pre W → pre.length < len → YieldAt F (n - 1) Try.prog l #[x.v] W fun e W' =>
      (e = .returned (.bool true) ∧ J (pre ++ [x]) W' ∧ Below w0.heap.size W W') ∨ (e = .returned (.bool false) ∧ Jx (pre ++ [x]) W'))
    (W : World) (hW : Up w0 W) (hJU : ∀ s X X', J s X → Up X X' → J s X') (h0 : J [] W) :
    CallsIn F n Try.prog 137 #[.func (.yield l) #[] #[], .pointer (some ⟨Bs, 0, none⟩), .pointer (some ⟨Bd, 0, none⟩)] W fun e W' => (∃ v, e = .returned v) ∧ ((∃ ys, ys = winE wd es ∧ J ys W') ∨ (∃ pre, True ∧ Jx pre W')) := by
  have JU := Lib.hid hJU
  have HY := Lib.hid hY
  have HE := Lib.hid hE
  have HT := Lib.hid ht
  have c1 := (hW.cells _ _ hbs).trans hBs
  have hs1 := Nat.lt_of_lt_of_le hbs hW.size
  clear hJU hY hE ht; refine callsIn_of_wp Try.func137 rfl h7 ?_ hro; simp only [Try.ntmps137, List.size_toArray, List.length_cons, List.length_nil, Nat.reduceAdd, Nat.reduceSub, Array.replicate_succ, Array.replicate_zero, List.push_toArray, List.append_toArray, List.nil_append, List.cons_append]
  gi_wp2
  clear c1 hs1
  gi_loopw [8] (fun i wr => ∃ k : Nat, k ≤ len ∧ i = .int .i64 k ∧ J (es.take k) wr ∧ (∀ j, j < k → (es.getD j default).t < (es.getD 0 default).t + wd) ∧ Up w0 wr)
    (fun i _ => len - (intOf i).toNat)
  case atStart => exact ⟨0, Nat.zero_le _, rfl, h0, fun j hj => absurd hj (by omega), hW⟩
  case round =>
    obtain ⟨k, hk, rfl, hJs, hpre, hnx⟩ := hrel
    have HJ := Lib.hid hJs
    have PR := Lib.hid hpre
    have UW := Lib.hid hnx
    clear hJs hpre hnx
    by_cases hlt : k < len
    · obtain ⟨b, off, hA, hb, hc⟩ := HE.out.2 (by omega)
      subst hA
      have a0 := hc k hlt
      have a1 := (hc 0 (by omega)).1
      have t0 := HT.out k hlt
      have t1 := HT.out 0 (by omega)
      have LEN := Lib.hid (show (es.take k).length < len by rw [List.length_take]; omega)
      have LK := Lib.hid (show k < es.length by rw [HE.out.1]; exact hlt)
      have TK := Lib.hid (take_getD es k LK.out)
      have P0 := Lib.hid (PR.out)
      obtain ⟨x, hx⟩ : ∃ x, x = es.getD k default := ⟨_, rfl⟩; obtain ⟨y, hy0⟩ : ∃ y, y = (es.getD 0 default).t := ⟨_, rfl⟩; rw [← hx] at a0 t0 TK; rw [← hy0] at a1 t1 P0
      have HX := Lib.hid hx
      have HY0 := Lib.hid hy0
      clear hx hy0 hc; obtain ⟨et, eto, efr, esq, ekd, edt⟩ := x; obtain ⟨p0, p1, p2, p3, p4, p5⟩ := a0; dsimp only at p0 p1 p2 p3 p4 p5 t0; rw [Nat.zero_mul, Nat.add_zero] at a1
      replace p0 := (UW.out.cells _ _ hb).trans p0
      replace p1 := (UW.out.cells _ _ hb).trans p1
      replace p2 := (UW.out.cells _ _ hb).trans p2
      replace p3 := (UW.out.cells _ _ hb).trans p3
      replace p4 := (UW.out.cells _ _ hb).trans p4
      replace p5 := (UW.out.cells _ _ hb).trans p5
      have r0 := (UW.out.cells _ _ hb).trans a1
      have c1 := (UW.out.cells _ _ hbs).trans hBs
      have c2 := (UW.out.cells _ _ hbd).trans hBd
      have hbr : b < wr.heap.size := Nat.lt_of_lt_of_le hb UW.out.size
      have hsr : Bs < wr.heap.size := Nat.lt_of_lt_of_le hbs UW.out.size
      have hdr : Bd < wr.heap.size := Nat.lt_of_lt_of_le hbd UW.out.size
      have i4 : (k : Int) < len := by omega
      have i5 : IntKind.i64.wrap (y + wd) = y + wd := IntWalk.i64_in _ (by omega)
      have i6 : 0 < len := by omega
      have i7 : IntKind.i64.wrap ((k : Int) + 1) = (k : Int) + 1 := IntWalk.i64_in _ (by omega)
      clear a1
      gi_wp2_with fail
      clear p0 p1 p2 p3 p4 p5
      by_cases hge : y + wd ≤ et
      · have WE := Lib.hid (show es.take k = winE wd es from by
          unfold winE; refine (takeW_stop es k LK.out (fun j hj => decide_eq_true (PR.out j hj)) (decide_eq_false ?_)).symm; rw [← HX.out, ← HY0.out]; dsimp only
          omega)
        refine region_iWalk 15 (by kernel_rfl) rfl (by kernel_rfl) ?_
        have X5 := Lib.hid (Blk.up (Blk.new wr #[.int .i64 et, .int .i64 eto, .int .i64 efr, .int .i64 esq, .int .i64 ekd, .int .i64 edt] 74) (Up.refl _).drew)
        have UD := Lib.hid (((Up.refl wr).alloc (.cells #[.int .i64 et, .int .i64 eto, .int .i64 efr, .int .i64 esq, .int .i64 ekd, .int .i64 edt] 74)).drew)
        obtain ⟨x0, x1, x2⟩ := And.intro (X5.out.cell (j := 0) rfl) (And.intro (X5.out.cell (j := 1) rfl) (X5.out.cell (j := 2) rfl)); obtain ⟨x3, x4, x5⟩ := And.intro (X5.out.cell (j := 3) rfl) (And.intro (X5.out.cell (j := 4) rfl) (X5.out.cell (j := 5) rfl))
        have lx := X5.out.lt
        replace c1 := (UD.out.cells _ _ hsr).trans c1
        replace c2 := (UD.out.cells _ _ hdr).trans c2
        replace r0 := (UD.out.cells _ _ hbr).trans r0
        replace hsr := Nat.lt_of_lt_of_le hsr UD.out.size
        replace hdr := Nat.lt_of_lt_of_le hdr UD.out.size
        replace hbr := Nat.lt_of_lt_of_le hbr UD.out.size
        generalize (wr.alloc (.cells #[.int .i64 et, .int .i64 eto, .int .i64 efr, .int .i64 esq, .int .i64 ekd, .int .i64 edt] 74)).drew = W5 at *
        generalize wr.heap.size = b5 at *
        refine iWalk_cut { tmps := #[.func (.yield l) #[] #[], .pointer (some ⟨Bs, 0, none⟩), .pointer (some ⟨Bd, 0, none⟩), undef, undef, .pointer (some ⟨b5, 0, none⟩), .slice (some ⟨b, off, none⟩) len cap, .int .i64 len, .int .i64 k, .bool true, .pointer (some ⟨b, off + k * 6, none⟩), .agg #[.int .i64 et, .int .i64 eto, .int .i64 efr, .int .i64 esq, .int .i64 ekd, .int .i64 edt], .pointer (some ⟨b5, 0, none⟩), .int .i64 et, .slice (some ⟨b, off, none⟩) len cap, .pointer (some ⟨b, off, none⟩), .pointer (some ⟨b, off, none⟩), .int .i64 y, .int .i64 wd, .int .i64 (y + wd), .bool true, .bool true, u22, u23, u24, u25, u26, u27], defers := [] } 5 #[true, true, true, true, true, true, true, true, true, true, false, false, false, false, false] ?_ (fun TAIL => ?_)
        · refine iWalk_skip 10 hro (by kernel_rfl) rfl (by rfl) (fun _ => rfl) ?_
          go_simp; refine iWalk_skip 11 hro (by kernel_rfl) rfl (by rfl) (fun _ => rfl) ?_; go_simp; refine iWalk_skip 12 hro (by kernel_rfl) rfl (by rfl) (fun _ => rfl) ?_; go_simp; refine iWalk_skip 13 hro (by kernel_rfl) rfl (by rfl) (fun _ => rfl) ?_; go_simp; refine iWalk_take 14 hro (by kernel_rfl) rfl (by rfl) (fun _ => rfl) ?_; apply Exists.intro; refine ⟨fun w1 => ?_, ?_⟩
          · go_simp
            try rfl
          go_simp; refine iWalk_nil (by kernel_rfl) ?_
          gi_wp2
          refine bodyPost_ret (results_none rfl _ _ _) rfl ?_
          exact ⟨⟨_, rfl⟩, .inl (by first | exact ⟨_, WE.out, JU.out _ _ _ HJ.out UD.out⟩ | (rw [← WE.out]; exact JU.out _ _ _ HJ.out UD.out))⟩
        refine iWalk_take 0 hro (by kernel_rfl) rfl (by rfl) (fun _ => rfl) ?_; apply Exists.intro; refine ⟨fun w1 => ?_, ?_⟩
        · go_simp
          try rfl
        go_simp; refine iWalk_three (i := 1) (j := 2) (m := 6) (by kernel_rfl) ?_ ?_ ?_
        · refine nextI_mk rfl (by rfl) (fun K hK => opIn_read hro rfl ?_)
          apply Exists.intro; refine ⟨?_, ?_⟩
          · go_simp
            try rfl
          go_simp; refine hK _ _ ?_; clear hK K; refine iWalk_two (i := 2) (j := 6) (by kernel_rfl) ?_ ?_
          · refine nextI_mk rfl (by rfl) (fun K hK => opIn_read hro rfl ?_)
            apply Exists.intro; refine ⟨?_, ?_⟩
            · go_simp
              try rfl
            go_simp; refine hK _ _ ?_; clear hK K; refine iWalk_take 3 hro (by kernel_rfl) rfl (by rfl) (fun _ => rfl) ?_; apply Exists.intro; refine ⟨fun w1 => ?_, ?_⟩
            · go_simp
              try rfl
            go_simp; refine iWalk_take 4 hro (by kernel_rfl) rfl (by rfl) (fun _ => rfl) ?_; apply Exists.intro; refine ⟨fun w1 => ?_, ?_⟩
            · go_simp
              try rfl
            go_simp; refine iWalk_two (i := 5) (j := 6) (by kernel_rfl) ?_ ?_
            · refine nextI_mk rfl (by rfl) (fun K hK => opIn_read hro rfl ?_)
              apply Exists.intro; refine ⟨?_, ?_⟩
              · go_simp
                try rfl
              go_simp; refine hK _ _ ?_; clear hK K; refine iWalk_one (i := 6) (by kernel_rfl) ?_
              · refine nextI_mk rfl (by rfl) (fun K hK => opIn_read hro rfl ?_)
                apply Exists.intro; refine ⟨?_, ?_⟩
                · go_simp
                  try rfl
                go_simp; refine hK _ _ ?_; clear hK K; refine iWalk_take 7 hro (by kernel_rfl) rfl (by rfl) (fun _ => rfl) ?_; apply Exists.intro; refine ⟨fun w1 => ?_, ?_⟩
                · go_simp
                  try rfl
                go_simp; refine iWalk_take 8 hro (by kernel_rfl) rfl (by rfl) (fun _ => rfl) ?_; apply Exists.intro; refine ⟨fun w1 => ?_, ?_⟩
                · go_simp
                  try rfl
                go_simp; refine iWalk_take 9 hro (by kernel_rfl) rfl (by rfl) (fun _ => rfl) ?_; apply Exists.intro; refine ⟨fun w1 => ?_, ?_⟩
                · go_simp
                  try rfl
                go_simp; refine iWalk_list #[true, true, true, true, true, true, true, true, true, true, false, false, false, false, false] (by kernel_rfl) ?_
                exact TAIL
            · refine nextI_mk rfl (by rfl) (fun K hK => opIn_read hro rfl ?_)
              apply Exists.intro; refine ⟨?_, ?_⟩
              · go_simp
                try rfl
              go_simp; refine hK _ _ ?_; clear hK K; refine iWalk_one (i := 5) (by kernel_rfl) ?_
              · refine nextI_mk rfl (by rfl) (fun K hK => opIn_read hro rfl ?_)
                apply Exists.intro; refine ⟨?_, ?_⟩
                · go_simp
                  try rfl
                go_simp; refine hK _ _ ?_; clear hK K; refine iWalk_take 7 hro (by kernel_rfl) rfl (by rfl) (fun _ => rfl) ?_; apply Exists.intro; refine ⟨fun w1 => ?_, ?_⟩
                · go_simp
                  try rfl
                go_simp; refine iWalk_take 8 hro (by kernel_rfl) rfl (by rfl) (fun _ => rfl) ?_; apply Exists.intro; refine ⟨fun w1 => ?_, ?_⟩
                · go_simp
                  try rfl
                go_simp; refine iWalk_take 9 hro (by kernel_rfl) rfl (by rfl) (fun _ => rfl) ?_; apply Exists.intro; refine ⟨fun w1 => ?_, ?_⟩
                · go_simp
                  try rfl
                go_simp; refine iWalk_list #[true, true, true, true, true, true, true, true, true, true, false, false, false, false, false] (by kernel_rfl) ?_
                exact TAIL
          · refine nextI_mk rfl (by rfl) (fun K hK => opIn_read hro rfl ?_)
            apply Exists.intro; refine ⟨?_, ?_⟩
            · go_simp
              try rfl
            go_simp; refine hK _ _ ?_; clear hK K; refine iWalk_one (i := 2) (by kernel_rfl) ?_
            · refine nextI_mk rfl (by rfl) (fun K hK => opIn_read hro rfl ?_)
              apply Exists.intro; refine ⟨?_, ?_⟩
              · go_simp
                try rfl
              go_simp; refine hK _ _ ?_; clear hK K; refine iWalk_take 3 hro (by kernel_rfl) rfl (by rfl) (fun _ => rfl) ?_; apply Exists.intro; refine ⟨fun w1 => ?_, ?_⟩
              · go_simp
                try rfl
              go_simp; refine iWalk_take 4 hro (by kernel_rfl) rfl (by rfl) (fun _ => rfl) ?_; apply Exists.intro; refine ⟨fun w1 => ?_, ?_⟩
              · go_simp
                try rfl
              go_simp; refine iWalk_one (i := 5) (by kernel_rfl) ?_
              · refine nextI_mk rfl (by rfl) (fun K hK => opIn_read hro rfl ?_)
                apply Exists.intro; refine ⟨?_, ?_⟩
                · go_simp
                  try rfl
                go_simp; refine hK _ _ ?_; clear hK K; refine iWalk_take 7 hro (by kernel_rfl) rfl (by rfl) (fun _ => rfl) ?_; apply Exists.intro; refine ⟨fun w1 => ?_, ?_⟩
                · go_simp
                  try rfl
                go_simp; refine iWalk_take 8 hro (by kernel_rfl) rfl (by rfl) (fun _ => rfl) ?_; apply Exists.intro; refine ⟨fun w1 => ?_, ?_⟩
                · go_simp
                  try rfl
                go_simp; refine iWalk_take 9 hro (by kernel_rfl) rfl (by rfl) (fun _ => rfl) ?_; apply Exists.intro; refine ⟨fun w1 => ?_, ?_⟩
                · go_simp
                  try rfl
                go_simp; refine iWalk_list #[true, true, true, true, true, true, true, true, true, true, false, false, false, false, false] (by kernel_rfl) ?_
                exact TAIL
        · refine nextI_mk rfl (by rfl) (fun K hK => opIn_read hro rfl ?_)
          apply Exists.intro; refine ⟨?_, ?_⟩
          · go_simp
            try rfl
          go_simp; refine hK _ _ ?_; clear hK K; refine iWalk_take 3 hro (by kernel_rfl) rfl (by rfl) (fun _ => rfl) ?_; apply Exists.intro; refine ⟨fun w1 => ?_, ?_⟩
          · go_simp
            try rfl
          go_simp; refine iWalk_take 4 hro (by kernel_rfl) rfl (by rfl) (fun _ => rfl) ?_; apply Exists.intro; refine ⟨fun w1 => ?_, ?_⟩
          · go_simp
            try rfl
          go_simp; refine iWalk_three (i := 1) (j := 5) (m := 6) (by kernel_rfl) ?_ ?_ ?_
          · refine nextI_mk rfl (by rfl) (fun K hK => opIn_read hro rfl ?_)
            apply Exists.intro; refine ⟨?_, ?_⟩
            · go_simp
              try rfl
            go_simp; refine hK _ _ ?_; clear hK K; refine iWalk_two (i := 5) (j := 6) (by kernel_rfl) ?_ ?_
            · refine nextI_mk rfl (by rfl) (fun K hK => opIn_read hro rfl ?_)
              apply Exists.intro; refine ⟨?_, ?_⟩
              · go_simp
                try rfl
              go_simp; refine hK _ _ ?_; clear hK K; refine iWalk_one (i := 6) (by kernel_rfl) ?_
              · refine nextI_mk rfl (by rfl) (fun K hK => opIn_read hro rfl ?_)
                apply Exists.intro; refine ⟨?_, ?_⟩
                · go_simp
                  try rfl
                go_simp; refine hK _ _ ?_; clear hK K; refine iWalk_take 7 hro (by kernel_rfl) rfl (by rfl) (fun _ => rfl) ?_; apply Exists.intro; refine ⟨fun w1 => ?_, ?_⟩
                · go_simp
                  try rfl
                go_simp; refine iWalk_take 8 hro (by kernel_rfl) rfl (by rfl) (fun _ => rfl) ?_; apply Exists.intro; refine ⟨fun w1 => ?_, ?_⟩
                · go_simp
                  try rfl
                go_simp; refine iWalk_take 9 hro (by kernel_rfl) rfl (by rfl) (fun _ => rfl) ?_; apply Exists.intro; refine ⟨fun w1 => ?_, ?_⟩
                · go_simp
                  try rfl
                go_simp; refine iWalk_list #[true, true, true, true, true, true, true, true, true, true, false, false, false, false, false] (by kernel_rfl) ?_
                exact TAIL
            · refine nextI_mk rfl (by rfl) (fun K hK => opIn_read hro rfl ?_)
              apply Exists.intro; refine ⟨?_, ?_⟩
              · go_simp
                try rfl
              go_simp; refine hK _ _ ?_; clear hK K; refine iWalk_one (i := 5) (by kernel_rfl) ?_
              · refine nextI_mk rfl (by rfl) (fun K hK => opIn_read hro rfl ?_)
                apply Exists.intro; refine ⟨?_, ?_⟩
                · go_simp
                  try rfl
                go_simp; refine hK _ _ ?_; clear hK K; refine iWalk_take 7 hro (by kernel_rfl) rfl (by rfl) (fun _ => rfl) ?_; apply Exists.intro; refine ⟨fun w1 => ?_, ?_⟩
                · go_simp
                  try rfl
                go_simp; refine iWalk_take 8 hro (by kernel_rfl) rfl (by rfl) (fun _ => rfl) ?_; apply Exists.intro; refine ⟨fun w1 => ?_, ?_⟩
                · go_simp
                  try rfl
                go_simp; refine iWalk_take 9 hro (by kernel_rfl) rfl (by rfl) (fun _ => rfl) ?_; apply Exists.intro; refine ⟨fun w1 => ?_, ?_⟩
                · go_simp
                  try rfl
                go_simp; refine iWalk_list #[true, true, true, true, true, true, true, true, true, true, false, false, false, false, false] (by kernel_rfl) ?_
                exact TAIL
          · refine nextI_mk rfl (by rfl) (fun K hK => opIn_read hro rfl ?_)
            apply Exists.intro; refine ⟨?_, ?_⟩
            · go_simp
              try rfl
            go_simp; refine hK _ _ ?_; clear hK K; refine iWalk_two (i := 1) (j := 6) (by kernel_rfl) ?_ ?_
            · refine nextI_mk rfl (by rfl) (fun K hK => opIn_read hro rfl ?_)
              apply Exists.intro; refine ⟨?_, ?_⟩
              · go_simp
                try rfl
              go_simp; refine hK _ _ ?_; clear hK K; refine iWalk_one (i := 6) (by kernel_rfl) ?_
              · refine nextI_mk rfl (by rfl) (fun K hK => opIn_read hro rfl ?_)
                apply Exists.intro; refine ⟨?_, ?_⟩
                · go_simp
                  try rfl
                go_simp; refine hK _ _ ?_; clear hK K; refine iWalk_take 7 hro (by kernel_rfl) rfl (by rfl) (fun _ => rfl) ?_; apply Exists.intro; refine ⟨fun w1 => ?_, ?_⟩
                · go_simp
                  try rfl
                go_simp; refine iWalk_take 8 hro (by kernel_rfl) rfl (by rfl) (fun _ => rfl) ?_; apply Exists.intro; refine ⟨fun w1 => ?_, ?_⟩
                · go_simp
                  try rfl
                go_simp; refine iWalk_take 9 hro (by kernel_rfl) rfl (by rfl) (fun _ => rfl) ?_; apply Exists.intro; refine ⟨fun w1 => ?_, ?_⟩
                · go_simp
                  try rfl
                go_simp; refine iWalk_list #[true, true, true, true, true, true, true, true, true, true, false, false, false, false, false] (by kernel_rfl) ?_
                exact TAIL
            · refine nextI_mk rfl (by rfl) (fun K hK => opIn_read hro rfl ?_)
              apply Exists.intro; refine ⟨?_, ?_⟩
              · go_simp
                try rfl
              go_simp; refine hK _ _ ?_; clear hK K; refine iWalk_take 7 hro (by kernel_rfl) rfl (by rfl) (fun _ => rfl) ?_; apply Exists.intro; refine ⟨fun w1 => ?_, ?_⟩
              · go_simp
                try rfl
              go_simp; refine iWalk_one (i := 1) (by kernel_rfl) ?_
              · refine nextI_mk rfl (by rfl) (fun K hK => opIn_read hro rfl ?_)
                apply Exists.intro; refine ⟨?_, ?_⟩
                · go_simp
                  try rfl
                go_simp; refine hK _ _ ?_; clear hK K; refine iWalk_take 8 hro (by kernel_rfl) rfl (by rfl) (fun _ => rfl) ?_; apply Exists.intro; refine ⟨fun w1 => ?_, ?_⟩
                · go_simp
                  try rfl
                go_simp; refine iWalk_take 9 hro (by kernel_rfl) rfl (by rfl) (fun _ => rfl) ?_; apply Exists.intro; refine ⟨fun w1 => ?_, ?_⟩
                · go_simp
                  try rfl
                go_simp; refine iWalk_list #[true, true, true, true, true, true, true, true, true, true, false, false, false, false, false] (by kernel_rfl) ?_
                exact TAIL
          · refine nextI_mk rfl (by rfl) (fun K hK => opIn_read hro rfl ?_)
            apply Exists.intro; refine ⟨?_, ?_⟩
            · go_simp
              try rfl
            go_simp; refine hK _ _ ?_; clear hK K; refine iWalk_two (i := 1) (j := 5) (by kernel_rfl) ?_ ?_
            · refine nextI_mk rfl (by rfl) (fun K hK => opIn_read hro rfl ?_)
              apply Exists.intro; refine ⟨?_, ?_⟩
              · go_simp
                try rfl
              go_simp; refine hK _ _ ?_; clear hK K; refine iWalk_one (i := 5) (by kernel_rfl) ?_
              · refine nextI_mk rfl (by rfl) (fun K hK => opIn_read hro rfl ?_)
                apply Exists.intro; refine ⟨?_, ?_⟩
                · go_simp
                  try rfl
                go_simp; refine hK _ _ ?_; clear hK K; refine iWalk_take 7 hro (by kernel_rfl) rfl (by rfl) (fun _ => rfl) ?_; apply Exists.intro; refine ⟨fun w1 => ?_, ?_⟩
                · go_simp
                  try rfl
                go_simp; refine iWalk_take 8 hro (by kernel_rfl) rfl (by rfl) (fun _ => rfl) ?_; apply Exists.intro; refine ⟨fun w1 => ?_, ?_⟩
                · go_simp
                  try rfl
                go_simp; refine iWalk_take 9 hro (by kernel_rfl) rfl (by rfl) (fun _ => rfl) ?_; apply Exists.intro; refine ⟨fun w1 => ?_, ?_⟩
                · go_simp
                  try rfl
                go_simp; refine iWalk_list #[true, true, true, true, true, true, true, true, true, true, false, false, false, false, false] (by kernel_rfl) ?_
                exact TAIL
            · refine nextI_mk rfl (by rfl) (fun K hK => opIn_read hro rfl ?_)
              apply Exists.intro; refine ⟨?_, ?_⟩
              · go_simp
                try rfl
              go_simp; refine hK _ _ ?_; clear hK K; refine iWalk_take 7 hro (by kernel_rfl) rfl (by rfl) (fun _ => rfl) ?_; apply Exists.intro; refine ⟨fun w1 => ?_, ?_⟩
              · go_simp
                try rfl
              go_simp; refine iWalk_one (i := 1) (by kernel_rfl) ?_
              · refine nextI_mk rfl (by rfl) (fun K hK => opIn_read hro rfl ?_)
                apply Exists.intro; refine ⟨?_, ?_⟩
                · go_simp
                  try rfl
                go_simp; refine hK _ _ ?_; clear hK K; refine iWalk_take 8 hro (by kernel_rfl) rfl (by rfl) (fun _ => rfl) ?_; apply Exists.intro; refine ⟨fun w1 => ?_, ?_⟩
                · go_simp
                  try rfl
                go_simp; refine iWalk_take 9 hro (by kernel_rfl) rfl (by rfl) (fun _ => rfl) ?_; apply Exists.intro; refine ⟨fun w1 => ?_, ?_⟩
                · go_simp
                  try rfl
                go_simp; refine iWalk_list #[true, true, true, true, true, true, true, true, true, true, false, false, false, false, false] (by kernel_rfl) ?_
                exact TAIL
        · refine nextI_mk rfl (by rfl) (fun K hK => opIn_read hro rfl ?_)
          apply Exists.intro; refine ⟨?_, ?_⟩
          · go_simp
            try rfl
          go_simp; refine hK _ _ ?_; clear hK K; refine iWalk_two (i := 1) (j := 2) (by kernel_rfl) ?_ ?_
          · refine nextI_mk rfl (by rfl) (fun K hK => opIn_read hro rfl ?_)
            apply Exists.intro; refine ⟨?_, ?_⟩
            · go_simp
              try rfl
            go_simp; refine hK _ _ ?_; clear hK K; refine iWalk_one (i := 2) (by kernel_rfl) ?_
            · refine nextI_mk rfl (by rfl) (fun K hK => opIn_read hro rfl ?_)
              apply Exists.intro; refine ⟨?_, ?_⟩
              · go_simp
                try rfl
              go_simp; refine hK _ _ ?_; clear hK K; refine iWalk_take 3 hro (by kernel_rfl) rfl (by rfl) (fun _ => rfl) ?_; apply Exists.intro; refine ⟨fun w1 => ?_, ?_⟩
              · go_simp
                try rfl
              go_simp; refine iWalk_take 4 hro (by kernel_rfl) rfl (by rfl) (fun _ => rfl) ?_; apply Exists.intro; refine ⟨fun w1 => ?_, ?_⟩
              · go_simp
                try rfl
              go_simp; refine iWalk_one (i := 5) (by kernel_rfl) ?_
              · refine nextI_mk rfl (by rfl) (fun K hK => opIn_read hro rfl ?_)
                apply Exists.intro; refine ⟨?_, ?_⟩
                · go_simp
                  try rfl
                go_simp; refine hK _ _ ?_; clear hK K; refine iWalk_take 7 hro (by kernel_rfl) rfl (by rfl) (fun _ => rfl) ?_; apply Exists.intro; refine ⟨fun w1 => ?_, ?_⟩
                · go_simp
                  try rfl
                go_simp; refine iWalk_take 8 hro (by kernel_rfl) rfl (by rfl) (fun _ => rfl) ?_; apply Exists.intro; refine ⟨fun w1 => ?_, ?_⟩
                · go_simp
                  try rfl
                go_simp; refine iWalk_take 9 hro (by kernel_rfl) rfl (by rfl) (fun _ => rfl) ?_; apply Exists.intro; refine ⟨fun w1 => ?_, ?_⟩
                · go_simp
                  try rfl
                go_simp; refine iWalk_list #[true, true, true, true, true, true, true, true, true, true, false, false, false, false, false] (by kernel_rfl) ?_
                exact TAIL
          · refine nextI_mk rfl (by rfl) (fun K hK => opIn_read hro rfl ?_)
            apply Exists.intro; refine ⟨?_, ?_⟩
            · go_simp
              try rfl
            go_simp; refine hK _ _ ?_; clear hK K; refine iWalk_take 3 hro (by kernel_rfl) rfl (by rfl) (fun _ => rfl) ?_; apply Exists.intro; refine ⟨fun w1 => ?_, ?_⟩
            · go_simp
              try rfl
            go_simp; refine iWalk_take 4 hro (by kernel_rfl) rfl (by rfl) (fun _ => rfl) ?_; apply Exists.intro; refine ⟨fun w1 => ?_, ?_⟩
            · go_simp
              try rfl
            go_simp; refine iWalk_two (i := 1) (j := 5) (by kernel_rfl) ?_ ?_
            · refine nextI_mk rfl (by rfl) (fun K hK => opIn_read hro rfl ?_)
              apply Exists.intro; refine ⟨?_, ?_⟩
              · go_simp
                try rfl
              go_simp; refine hK _ _ ?_; clear hK K; refine iWalk_one (i := 5) (by kernel_rfl) ?_
              · refine nextI_mk rfl (by rfl) (fun K hK => opIn_read hro rfl ?_)
                apply Exists.intro; refine ⟨?_, ?_⟩
                · go_simp
                  try rfl
                go_simp; refine hK _ _ ?_; clear hK K; refine iWalk_take 7 hro (by kernel_rfl) rfl (by rfl) (fun _ => rfl) ?_; apply Exists.intro; refine ⟨fun w1 => ?_, ?_⟩
                · go_simp
                  try rfl
                go_simp; refine iWalk_take 8 hro (by kernel_rfl) rfl (by rfl) (fun _ => rfl) ?_; apply Exists.intro; refine ⟨fun w1 => ?_, ?_⟩
                · go_simp
                  try rfl
                go_simp; refine iWalk_take 9 hro (by kernel_rfl) rfl (by rfl) (fun _ => rfl) ?_; apply Exists.intro; refine ⟨fun w1 => ?_, ?_⟩
                · go_simp
                  try rfl
                go_simp; refine iWalk_list #[true, true, true, true, true, true, true, true, true, true, false, false, false, false, false] (by kernel_rfl) ?_
                exact TAIL
            · refine nextI_mk rfl (by rfl) (fun K hK => opIn_read hro rfl ?_)
              apply Exists.intro; refine ⟨?_, ?_⟩
              · go_simp
                try rfl
              go_simp; refine hK _ _ ?_; clear hK K; refine iWalk_take 7 hro (by kernel_rfl) rfl (by rfl) (fun _ => rfl) ?_; apply Exists.intro; refine ⟨fun w1 => ?_, ?_⟩
              · go_simp
                try rfl
              go_simp; refine iWalk_one (i := 1) (by kernel_rfl) ?_
              · refine nextI_mk rfl (by rfl) (fun K hK => opIn_read hro rfl ?_)
                apply Exists.intro; refine ⟨?_, ?_⟩
                · go_simp
                  try rfl
                go_simp; refine hK _ _ ?_; clear hK K; refine iWalk_take 8 hro (by kernel_rfl) rfl (by rfl) (fun _ => rfl) ?_; apply Exists.intro; refine ⟨fun w1 => ?_, ?_⟩
                · go_simp
                  try rfl
                go_simp; refine iWalk_take 9 hro (by kernel_rfl) rfl (by rfl) (fun _ => rfl) ?_; apply Exists.intro; refine ⟨fun w1 => ?_, ?_⟩
                · go_simp
                  try rfl
                go_simp; refine iWalk_list #[true, true, true, true, true, true, true, true, true, true, false, false, false, false, false] (by kernel_rfl) ?_
                exact TAIL
      · have hl2 : et < y + wd := by omega
        have PRE := Lib.hid (show ∀ j, j < k + 1 → (es.getD j default).t < (es.getD 0 default).t + wd from fun j hj => by
          by_cases e : j = k
          · subst e
            rw [← HX.out, ← HY0.out]
            exact hl2
          · exact PR.out j (by omega))
        refine region_iWalk 15 (by kernel_rfl) rfl (by kernel_rfl) ?_
        have X5 := Lib.hid (Blk.up (Blk.new wr #[.int .i64 et, .int .i64 eto, .int .i64 efr, .int .i64 esq, .int .i64 ekd, .int .i64 edt] 74) (Up.refl _).drew)
        have UD := Lib.hid (((Up.refl wr).alloc (.cells #[.int .i64 et, .int .i64 eto, .int .i64 efr, .int .i64 esq, .int .i64 ekd, .int .i64 edt] 74)).drew)
        obtain ⟨x0, x1, x2⟩ := And.intro (X5.out.cell (j := 0) rfl) (And.intro (X5.out.cell (j := 1) rfl) (X5.out.cell (j := 2) rfl)); obtain ⟨x3, x4, x5⟩ := And.intro (X5.out.cell (j := 3) rfl) (And.intro (X5.out.cell (j := 4) rfl) (X5.out.cell (j := 5) rfl))
        have lx := X5.out.lt
        replace c1 := (UD.out.cells _ _ hsr).trans c1
        replace c2 := (UD.out.cells _ _ hdr).trans c2
        replace r0 := (UD.out.cells _ _ hbr).trans r0
        replace hsr := Nat.lt_of_lt_of_le hsr UD.out.size
        replace hdr := Nat.lt_of_lt_of_le hdr UD.out.size
        replace hbr := Nat.lt_of_lt_of_le hbr UD.out.size
        generalize (wr.alloc (.cells #[.int .i64 et, .int .i64 eto, .int .i64 efr, .int .i64 esq, .int .i64 ekd, .int .i64 edt] 74)).drew = W5 at *
        generalize wr.heap.size = b5 at *
        refine iWalk_cut { tmps := #[.func (.yield l) #[] #[], .pointer (some ⟨Bs, 0, none⟩), .pointer (some ⟨Bd, 0, none⟩), undef, undef, .pointer (some ⟨b5, 0, none⟩), .slice (some ⟨b, off, none⟩) len cap, .int .i64 len, .int .i64 k, .bool true, .pointer (some ⟨b, off + k * 6, none⟩), .agg #[.int .i64 et, .int .i64 eto, .int .i64 efr, .int .i64 esq, .int .i64 ekd, .int .i64 edt], .pointer (some ⟨b5, 0, none⟩), .int .i64 et, .slice (some ⟨b, off, none⟩) len cap, .pointer (some ⟨b, off, none⟩), .pointer (some ⟨b, off, none⟩), .int .i64 y, .int .i64 wd, .int .i64 (y + wd), .bool false, .bool false, u22, u23, u24, u25, u26, u27], defers := [] } 5 #[true, true, true, true, true, true, true, true, true, true, false, false, false, false, false] ?_ (fun TAIL => ?_)
        · refine iWalk_take 10 hro (by kernel_rfl) rfl (by rfl) (fun _ => rfl) ?_
          apply Exists.intro; refine ⟨fun w1 => ?_, ?_⟩
          · go_simp
            try rfl
          go_simp; refine iWalk_one (i := 11) (by kernel_rfl) ?_; refine nextI_mk rfl (by rfl) (fun K hK => opIn_read hro rfl ?_); apply Exists.intro; refine ⟨?_, ?_⟩
          · go_simp
            try rfl
          go_simp; refine hK _ _ ?_; clear hK K; refine iWalk_one (i := 12) (by kernel_rfl) ?_; obtain ⟨fn, tmps, assign, body, hy, hR⟩ := HY.out _ (⟨et, eto, efr, esq, ekd, edt⟩ : Evt) W5 (JU.out _ _ _ HJ.out UD.out) LEN.out; unfold Evt.v at hy; dsimp only at hy; refine nextI_mk rfl (by rfl) (fun K hK => opIn_round (l := l) (f := fn) (tmps := tmps) (assign := assign) (body := body) hro (by rfl) hn ?_ (RoundIn.mono hR ?_))
          · go_simp
            try exact hy
          · rintro e W3 (⟨rfl, hJ3, hk3⟩ | ⟨rfl, hJx3⟩)
            · refine ⟨_, rfl, ?_⟩
              go_simp; refine hK _ _ ?_; clear hK K; refine iWalk_take 13 hro (by kernel_rfl) rfl (by rfl) (fun _ => rfl) ?_; apply Exists.intro; refine ⟨fun w1 => ?_, ?_⟩
              · go_simp
                try rfl
              go_simp; refine iWalk_take 14 hro (by kernel_rfl) rfl (by rfl) (fun _ => rfl) ?_; apply Exists.intro; refine ⟨fun w1 => ?_, ?_⟩
              · go_simp
                try rfl
              go_simp; refine iWalk_nil (by kernel_rfl) ?_
              gi_wp2
              go_roundw
              case rel => exact ⟨k + 1, by omega, by go_num, by rw [TK.out]; exact hJ3, fun j hj => PRE.out j hj, (show Below w0.heap.size w0 W5 from UW.out.trans UD.out).trans hk3⟩
              case measure => simp [intOf]; omega
            · refine ⟨_, rfl, ?_⟩
              go_simp; refine hK _ _ ?_; clear hK K; refine iWalk_take 13 hro (by kernel_rfl) rfl (by rfl) (fun _ => rfl) ?_; apply Exists.intro; refine ⟨fun w1 => ?_, ?_⟩
              · go_simp
                try rfl
              go_simp; refine iWalk_take 14 hro (by kernel_rfl) rfl (by rfl) (fun _ => rfl) ?_; apply Exists.intro; refine ⟨fun w1 => ?_, ?_⟩
              · go_simp
                try rfl
              go_simp; refine iWalk_nil (by kernel_rfl) ?_
              gi_wp2
              refine bodyPost_ret (results_none rfl _ _ _) rfl ?_
              exact ⟨⟨_, rfl⟩, .inr (by first | exact ⟨_, trivial, hJx3⟩ | exact ⟨_, hJx3⟩)⟩
        refine iWalk_take 0 hro (by kernel_rfl) rfl (by rfl) (fun _ => rfl) ?_; apply Exists.intro; refine ⟨fun w1 => ?_, ?_⟩
        · go_simp
          try rfl
        go_simp; refine iWalk_three (i := 1) (j := 2) (m := 6) (by kernel_rfl) ?_ ?_ ?_
        · refine nextI_mk rfl (by rfl) (fun K hK => opIn_read hro rfl ?_)
          apply Exists.intro; refine ⟨?_, ?_⟩
          · go_simp
            try rfl
          go_simp; refine hK _ _ ?_; clear hK K; refine iWalk_two (i := 2) (j := 6) (by kernel_rfl) ?_ ?_
          · refine nextI_mk rfl (by rfl) (fun K hK => opIn_read hro rfl ?_)
            apply Exists.intro; refine ⟨?_, ?_⟩
            · go_simp
              try rfl
            go_simp; refine hK _ _ ?_; clear hK K; refine iWalk_take 3 hro (by kernel_rfl) rfl (by rfl) (fun _ => rfl) ?_; apply Exists.intro; refine ⟨fun w1 => ?_, ?_⟩
            · go_simp
              try rfl
            go_simp; refine iWalk_take 4 hro (by kernel_rfl) rfl (by rfl) (fun _ => rfl) ?_; apply Exists.intro; refine ⟨fun w1 => ?_, ?_⟩
            · go_simp
              try rfl
            go_simp; refine iWalk_two (i := 5) (j := 6) (by kernel_rfl) ?_ ?_
            · refine nextI_mk rfl (by rfl) (fun K hK => opIn_read hro rfl ?_)
              apply Exists.intro; refine ⟨?_, ?_⟩
              · go_simp
                try rfl
              go_simp; refine hK _ _ ?_; clear hK K; refine iWalk_one (i := 6) (by kernel_rfl) ?_
              · refine nextI_mk rfl (by rfl) (fun K hK => opIn_read hro rfl ?_)
                apply Exists.intro; refine ⟨?_, ?_⟩
                · go_simp
                  try rfl
                go_simp; refine hK _ _ ?_; clear hK K; refine iWalk_take 7 hro (by kernel_rfl) rfl (by rfl) (fun _ => rfl) ?_; apply Exists.intro; refine ⟨fun w1 => ?_, ?_⟩
                · go_simp
                  try rfl
                go_simp; refine iWalk_take 8 hro (by kernel_rfl) rfl (by rfl) (fun _ => rfl) ?_; apply Exists.intro; refine ⟨fun w1 => ?_, ?_⟩
                · go_simp
                  try rfl
                go_simp; refine iWalk_take 9 hro (by kernel_rfl) rfl (by rfl) (fun _ => rfl) ?_; apply Exists.intro; refine ⟨fun w1 => ?_, ?_⟩
                · go_simp
                  try rfl
                go_simp; refine iWalk_list #[true, true, true, true, true, true, true, true, true, true, false, false, false, false, false] (by kernel_rfl) ?_
                exact TAIL
            · refine nextI_mk rfl (by rfl) (fun K hK => opIn_read hro rfl ?_)
              apply Exists.intro; refine ⟨?_, ?_⟩
              · go_simp
                try rfl
              go_simp; refine hK _ _ ?_; clear hK K; refine iWalk_one (i := 5) (by kernel_rfl) ?_
              · refine nextI_mk rfl (by rfl) (fun K hK => opIn_read hro rfl ?_)
                apply Exists.intro; refine ⟨?_, ?_⟩
                · go_simp
                  try rfl
                go_simp; refine hK _ _ ?_; clear hK K; refine iWalk_take 7 hro (by kernel_rfl) rfl (by rfl) (fun _ => rfl) ?_; apply Exists.intro; refine ⟨fun w1 => ?_, ?_⟩
                · go_simp
                  try rfl
                go_simp; refine iWalk_take 8 hro (by kernel_rfl) rfl (by rfl) (fun _ => rfl) ?_; apply Exists.intro; refine ⟨fun w1 => ?_, ?_⟩
                · go_simp
                  try rfl
                go_simp; refine iWalk_take 9 hro (by kernel_rfl) rfl (by rfl) (fun _ => rfl) ?_; apply Exists.intro; refine ⟨fun w1 => ?_, ?_⟩
                · go_simp
                  try rfl
                go_simp; refine iWalk_list #[true, true, true, true, true, true, true, true, true, true, false, false, false, false, false] (by kernel_rfl) ?_
                exact TAIL
          · refine nextI_mk rfl (by rfl) (fun K hK => opIn_read hro rfl ?_)
            apply Exists.intro; refine ⟨?_, ?_⟩
            · go_simp
              try rfl
            go_simp; refine hK _ _ ?_; clear hK K; refine iWalk_one (i := 2) (by kernel_rfl) ?_
            · refine nextI_mk rfl (by rfl) (fun K hK => opIn_read hro rfl ?_)
              apply Exists.intro; refine ⟨?_, ?_⟩
              · go_simp
                try rfl
              go_simp; refine hK _ _ ?_; clear hK K; refine iWalk_take 3 hro (by kernel_rfl) rfl (by rfl) (fun _ => rfl) ?_; apply Exists.intro; refine ⟨fun w1 => ?_, ?_⟩
              · go_simp
                try rfl
              go_simp; refine iWalk_take 4 hro (by kernel_rfl) rfl (by rfl) (fun _ => rfl) ?_; apply Exists.intro; refine ⟨fun w1 => ?_, ?_⟩
              · go_simp
                try rfl
              go_simp; refine iWalk_one (i := 5) (by kernel_rfl) ?_
              · refine nextI_mk rfl (by rfl) (fun K hK => opIn_read hro rfl ?_)
                apply Exists.intro; refine ⟨?_, ?_⟩
                · go_simp
                  try rfl
                go_simp; refine hK _ _ ?_; clear hK K; refine iWalk_take 7 hro (by kernel_rfl) rfl (by rfl) (fun _ => rfl) ?_; apply Exists.intro; refine ⟨fun w1 => ?_, ?_⟩
                · go_simp
                  try rfl
                go_simp; refine iWalk_take 8 hro (by kernel_rfl) rfl (by rfl) (fun _ => rfl) ?_; apply Exists.intro; refine ⟨fun w1 => ?_, ?_⟩
                · go_simp
                  try rfl
                go_simp; refine iWalk_take 9 hro (by kernel_rfl) rfl (by rfl) (fun _ => rfl) ?_; apply Exists.intro; refine ⟨fun w1 => ?_, ?_⟩
                · go_simp
                  try rfl
                go_simp; refine iWalk_list #[true, true, true, true, true, true, true, true, true, true, false, false, false, false, false] (by kernel_rfl) ?_
                exact TAIL
        · refine nextI_mk rfl (by rfl) (fun K hK => opIn_read hro rfl ?_)
          apply Exists.intro; refine ⟨?_, ?_⟩
          · go_simp
            try rfl
          go_simp; refine hK _ _ ?_; clear hK K; refine iWalk_take 3 hro (by kernel_rfl) rfl (by rfl) (fun _ => rfl) ?_; apply Exists.intro; refine ⟨fun w1 => ?_, ?_⟩
          · go_simp
            try rfl
          go_simp; refine iWalk_take 4 hro (by kernel_rfl) rfl (by rfl) (fun _ => rfl) ?_; apply Exists.intro; refine ⟨fun w1 => ?_, ?_⟩
          · go_simp
            try rfl
          go_simp; refine iWalk_three (i := 1) (j := 5) (m := 6) (by kernel_rfl) ?_ ?_ ?_
          · refine nextI_mk rfl (by rfl) (fun K hK => opIn_read hro rfl ?_)
            apply Exists.intro; refine ⟨?_, ?_⟩
            · go_simp
              try rfl
            go_simp; refine hK _ _ ?_; clear hK K; refine iWalk_two (i := 5) (j := 6) (by kernel_rfl) ?_ ?_
            · refine nextI_mk rfl (by rfl) (fun K hK => opIn_read hro rfl ?_)
              apply Exists.intro; refine ⟨?_, ?_⟩
              · go_simp
                try rfl
              go_simp; refine hK _ _ ?_; clear hK K; refine iWalk_one (i := 6) (by kernel_rfl) ?_
              · refine nextI_mk rfl (by rfl) (fun K hK => opIn_read hro rfl ?_)
                apply Exists.intro; refine ⟨?_, ?_⟩
                · go_simp
                  try rfl
                go_simp; refine hK _ _ ?_; clear hK K; refine iWalk_take 7 hro (by kernel_rfl) rfl (by rfl) (fun _ => rfl) ?_; apply Exists.intro; refine ⟨fun w1 => ?_, ?_⟩
                · go_simp
                  try rfl
                go_simp; refine iWalk_take 8 hro (by kernel_rfl) rfl (by rfl) (fun _ => rfl) ?_; apply Exists.intro; refine ⟨fun w1 => ?_, ?_⟩
                · go_simp
                  try rfl
                go_simp; refine iWalk_take 9 hro (by kernel_rfl) rfl (by rfl) (fun _ => rfl) ?_; apply Exists.intro; refine ⟨fun w1 => ?_, ?_⟩
                · go_simp
                  try rfl
                go_simp; refine iWalk_list #[true, true, true, true, true, true, true, true, true, true, false, false, false, false, false] (by kernel_rfl) ?_
                exact TAIL
            · refine nextI_mk rfl (by rfl) (fun K hK => opIn_read hro rfl ?_)
              apply Exists.intro; refine ⟨?_, ?_⟩
              · go_simp
                try rfl
              go_simp; refine hK _ _ ?_; clear hK K; refine iWalk_one (i := 5) (by kernel_rfl) ?_
              · refine nextI_mk rfl (by rfl) (fun K hK => opIn_read hro rfl ?_)
                apply Exists.intro; refine ⟨?_, ?_⟩
                · go_simp
                  try rfl
                go_simp; refine hK _ _ ?_; clear hK K; refine iWalk_take 7 hro (by kernel_rfl) rfl (by rfl) (fun _ => rfl) ?_; apply Exists.intro; refine ⟨fun w1 => ?_, ?_⟩
                · go_simp
                  try rfl
                go_simp; refine iWalk_take 8 hro (by kernel_rfl) rfl (by rfl) (fun _ => rfl) ?_; apply Exists.intro; refine ⟨fun w1 => ?_, ?_⟩
                · go_simp
                  try rfl
                go_simp; refine iWalk_take 9 hro (by kernel_rfl) rfl (by rfl) (fun _ => rfl) ?_; apply Exists.intro; refine ⟨fun w1 => ?_, ?_⟩
                · go_simp
                  try rfl
                go_simp; refine iWalk_list #[true, true, true, true, true, true, true, true, true, true, false, false, false, false, false] (by kernel_rfl) ?_
                exact TAIL
          · refine nextI_mk rfl (by rfl) (fun K hK => opIn_read hro rfl ?_)
            apply Exists.intro; refine ⟨?_, ?_⟩
            · go_simp
              try rfl
            go_simp; refine hK _ _ ?_; clear hK K; refine iWalk_two (i := 1) (j := 6) (by kernel_rfl) ?_ ?_
            · refine nextI_mk rfl (by rfl) (fun K hK => opIn_read hro rfl ?_)
              apply Exists.intro; refine ⟨?_, ?_⟩
              · go_simp
                try rfl
              go_simp; refine hK _ _ ?_; clear hK K; refine iWalk_one (i := 6) (by kernel_rfl) ?_
              · refine nextI_mk rfl (by rfl) (fun K hK => opIn_read hro rfl ?_)
                apply Exists.intro; refine ⟨?_, ?_⟩
                · go_simp
                  try rfl
                go_simp; refine hK _ _ ?_; clear hK K; refine iWalk_take 7 hro (by kernel_rfl) rfl (by rfl) (fun _ => rfl) ?_; apply Exists.intro; refine ⟨fun w1 => ?_, ?_⟩
                · go_simp
                  try rfl
                go_simp; refine iWalk_take 8 hro (by kernel_rfl) rfl (by rfl) (fun _ => rfl) ?_; apply Exists.intro; refine ⟨fun w1 => ?_, ?_⟩
                · go_simp
                  try rfl
                go_simp; refine iWalk_take 9 hro (by kernel_rfl) rfl (by rfl) (fun _ => rfl) ?_; apply Exists.intro; refine ⟨fun w1 => ?_, ?_⟩
                · go_simp
                  try rfl
                go_simp; refine iWalk_list #[true, true, true, true, true, true, true, true, true, true, false, false, false, false, false] (by kernel_rfl) ?_
                exact TAIL
            · refine nextI_mk rfl (by rfl) (fun K hK => opIn_read hro rfl ?_)
              apply Exists.intro; refine ⟨?_, ?_⟩
              · go_simp
                try rfl
              go_simp; refine hK _ _ ?_; clear hK K; refine iWalk_take 7 hro (by kernel_rfl) rfl (by rfl) (fun _ => rfl) ?_; apply Exists.intro; refine ⟨fun w1 => ?_, ?_⟩
              · go_simp
                try rfl
              go_simp; refine iWalk_one (i := 1) (by kernel_rfl) ?_
              · refine nextI_mk rfl (by rfl) (fun K hK => opIn_read hro rfl ?_)
                apply Exists.intro; refine ⟨?_, ?_⟩
                · go_simp
                  try rfl
                go_simp; refine hK _ _ ?_; clear hK K; refine iWalk_take 8 hro (by kernel_rfl) rfl (by rfl) (fun _ => rfl) ?_; apply Exists.intro; refine ⟨fun w1 => ?_, ?_⟩
                · go_simp
                  try rfl
                go_simp; refine iWalk_take 9 hro (by kernel_rfl) rfl (by rfl) (fun _ => rfl) ?_; apply Exists.intro; refine ⟨fun w1 => ?_, ?_⟩
                · go_simp
                  try rfl
                go_simp; refine iWalk_list #[true, true, true, true, true, true, true, true, true, true, false, false, false, false, false] (by kernel_rfl) ?_
                exact TAIL
          · refine nextI_mk rfl (by rfl) (fun K hK => opIn_read hro rfl ?_)
            apply Exists.intro; refine ⟨?_, ?_⟩
            · go_simp
              try rfl
            go_simp; refine hK _ _ ?_; clear hK K; refine iWalk_two (i := 1) (j := 5) (by kernel_rfl) ?_ ?_
            · refine nextI_mk rfl (by rfl) (fun K hK => opIn_read hro rfl ?_)
              apply Exists.intro; refine ⟨?_, ?_⟩
              · go_simp
                try rfl
              go_simp; refine hK _ _ ?_; clear hK K; refine iWalk_one (i := 5) (by kernel_rfl) ?_
              · refine nextI_mk rfl (by rfl) (fun K hK => opIn_read hro rfl ?_)
                apply Exists.intro; refine ⟨?_, ?_⟩
                · go_simp
                  try rfl
                go_simp; refine hK _ _ ?_; clear hK K; refine iWalk_take 7 hro (by kernel_rfl) rfl (by rfl) (fun _ => rfl) ?_; apply Exists.intro; refine ⟨fun w1 => ?_, ?_⟩
                · go_simp
                  try rfl
                go_simp; refine iWalk_take 8 hro (by kernel_rfl) rfl (by rfl) (fun _ => rfl) ?_; apply Exists.intro; refine ⟨fun w1 => ?_, ?_⟩
                · go_simp
                  try rfl
                go_simp; refine iWalk_take 9 hro (by kernel_rfl) rfl (by rfl) (fun _ => rfl) ?_; apply Exists.intro; refine ⟨fun w1 => ?_, ?_⟩
                · go_simp
                  try rfl
                go_simp; refine iWalk_list #[true, true, true, true, true, true, true, true, true, true, false, false, false, false, false] (by kernel_rfl) ?_
                exact TAIL
            · refine nextI_mk rfl (by rfl) (fun K hK => opIn_read hro rfl ?_)
              apply Exists.intro; refine ⟨?_, ?_⟩
              · go_simp
                try rfl
              go_simp; refine hK _ _ ?_; clear hK K; refine iWalk_take 7 hro (by kernel_rfl) rfl (by rfl) (fun _ => rfl) ?_; apply Exists.intro; refine ⟨fun w1 => ?_, ?_⟩
              · go_simp
                try rfl
              go_simp; refine iWalk_one (i := 1) (by kernel_rfl) ?_
              · refine nextI_mk rfl (by rfl) (fun K hK => opIn_read hro rfl ?_)
                apply Exists.intro; refine ⟨?_, ?_⟩
                · go_simp
                  try rfl
                go_simp; refine hK _ _ ?_; clear hK K; refine iWalk_take 8 hro (by kernel_rfl) rfl (by rfl) (fun _ => rfl) ?_; apply Exists.intro; refine ⟨fun w1 => ?_, ?_⟩
                · go_simp
                  try rfl
                go_simp; refine iWalk_take 9 hro (by kernel_rfl) rfl (by rfl) (fun _ => rfl) ?_; apply Exists.intro; refine ⟨fun w1 => ?_, ?_⟩
                · go_simp
                  try rfl
                go_simp; refine iWalk_list #[true, true, true, true, true, true, true, true, true, true, false, false, false, false, false] (by kernel_rfl) ?_
                exact TAIL
        · refine nextI_mk rfl (by rfl) (fun K hK => opIn_read hro rfl ?_)
          apply Exists.intro; refine ⟨?_, ?_⟩
          · go_simp
            try rfl
          go_simp; refine hK _ _ ?_; clear hK K; refine iWalk_two (i := 1) (j := 2) (by kernel_rfl) ?_ ?_
          · refine nextI_mk rfl (by rfl) (fun K hK => opIn_read hro rfl ?_)
            apply Exists.intro; refine ⟨?_, ?_⟩
            · go_simp
              try rfl
            go_simp; refine hK _ _ ?_; clear hK K; refine iWalk_one (i := 2) (by kernel_rfl) ?_
            · refine nextI_mk rfl (by rfl) (fun K hK => opIn_read hro rfl ?_)
              apply Exists.intro; refine ⟨?_, ?_⟩
              · go_simp
                try rfl
              go_simp; refine hK _ _ ?_; clear hK K; refine iWalk_take 3 hro (by kernel_rfl) rfl (by rfl) (fun _ => rfl) ?_; apply Exists.intro; refine ⟨fun w1 => ?_, ?_⟩
              · go_simp
                try rfl
              go_simp; refine iWalk_take 4 hro (by kernel_rfl) rfl (by rfl) (fun _ => rfl) ?_; apply Exists.intro; refine ⟨fun w1 => ?_, ?_⟩
              · go_simp
                try rfl
              go_simp; refine iWalk_one (i := 5) (by kernel_rfl) ?_
              · refine nextI_mk rfl (by rfl) (fun K hK => opIn_read hro rfl ?_)
                apply Exists.intro; refine ⟨?_, ?_⟩
                · go_simp
                  try rfl
                go_simp; refine hK _ _ ?_; clear hK K; refine iWalk_take 7 hro (by kernel_rfl) rfl (by rfl) (fun _ => rfl) ?_; apply Exists.intro; refine ⟨fun w1 => ?_, ?_⟩
                · go_simp
                  try rfl
                go_simp; refine iWalk_take 8 hro (by kernel_rfl) rfl (by rfl) (fun _ => rfl) ?_; apply Exists.intro; refine ⟨fun w1 => ?_, ?_⟩
                · go_simp
                  try rfl
                go_simp; refine iWalk_take 9 hro (by kernel_rfl) rfl (by rfl) (fun _ => rfl) ?_; apply Exists.intro; refine ⟨fun w1 => ?_, ?_⟩
                · go_simp
                  try rfl
                go_simp; refine iWalk_list #[true, true, true, true, true, true, true, true, true, true, false, false, false, false, false] (by kernel_rfl) ?_
                exact TAIL
          · refine nextI_mk rfl (by rfl) (fun K hK => opIn_read hro rfl ?_)
            apply Exists.intro; refine ⟨?_, ?_⟩
            · go_simp
              try rfl
            go_simp; refine hK _ _ ?_; clear hK K; refine iWalk_take 3 hro (by kernel_rfl) rfl (by rfl) (fun _ => rfl) ?_; apply Exists.intro; refine ⟨fun w1 => ?_, ?_⟩
            · go_simp
              try rfl
            go_simp; refine iWalk_take 4 hro (by kernel_rfl) rfl (by rfl) (fun _ => rfl) ?_; apply Exists.intro; refine ⟨fun w1 => ?_, ?_⟩
            · go_simp
              try rfl
            go_simp; refine iWalk_two (i := 1) (j := 5) (by kernel_rfl) ?_ ?_
            · refine nextI_mk rfl (by rfl) (fun K hK => opIn_read hro rfl ?_)
              apply Exists.intro; refine ⟨?_, ?_⟩
              · go_simp
                try rfl
              go_simp; refine hK _ _ ?_; clear hK K; refine iWalk_one (i := 5) (by kernel_rfl) ?_
              · refine nextI_mk rfl (by rfl) (fun K hK => opIn_read hro rfl ?_)
                apply Exists.intro; refine ⟨?_, ?_⟩
                · go_simp
                  try rfl
                go_simp; refine hK _ _ ?_; clear hK K; refine iWalk_take 7 hro (by kernel_rfl) rfl (by rfl) (fun _ => rfl) ?_; apply Exists.intro; refine ⟨fun w1 => ?_, ?_⟩
                · go_simp
                  try rfl
                go_simp; refine iWalk_take 8 hro (by kernel_rfl) rfl (by rfl) (fun _ => rfl) ?_; apply Exists.intro; refine ⟨fun w1 => ?_, ?_⟩
                · go_simp
                  try rfl
                go_simp; refine iWalk_take 9 hro (by kernel_rfl) rfl (by rfl) (fun _ => rfl) ?_; apply Exists.intro; refine ⟨fun w1 => ?_, ?_⟩
                · go_simp
                  try rfl
                go_simp; refine iWalk_list #[true, true, true, true, true, true, true, true, true, true, false, false, false, false, false] (by kernel_rfl) ?_
                exact TAIL
            · refine nextI_mk rfl (by rfl) (fun K hK => opIn_read hro rfl ?_)
              apply Exists.intro; refine ⟨?_, ?_⟩
              · go_simp
                try rfl
              go_simp; refine hK _ _ ?_; clear hK K; refine iWalk_take 7 hro (by kernel_rfl) rfl (by rfl) (fun _ => rfl) ?_; apply Exists.intro; refine ⟨fun w1 => ?_, ?_⟩
              · go_simp
                try rfl
              go_simp; refine iWalk_one (i := 1) (by kernel_rfl) ?_
              · refine nextI_mk rfl (by rfl) (fun K hK => opIn_read hro rfl ?_)
                apply Exists.intro; refine ⟨?_, ?_⟩
                · go_simp
                  try rfl
                go_simp; refine hK _ _ ?_; clear hK K; refine iWalk_take 8 hro (by kernel_rfl) rfl (by rfl) (fun _ => rfl) ?_; apply Exists.intro; refine ⟨fun w1 => ?_, ?_⟩
                · go_simp
                  try rfl
                go_simp; refine iWalk_take 9 hro (by kernel_rfl) rfl (by rfl) (fun _ => rfl) ?_; apply Exists.intro; refine ⟨fun w1 => ?_, ?_⟩
                · go_simp
                  try rfl
                go_simp; refine iWalk_list #[true, true, true, true, true, true, true, true, true, true, false, false, false, false, false] (by kernel_rfl) ?_
                exact TAIL
    · obtain rfl : k = len := by omega
      have WE := Lib.hid (show es.take k = winE wd es from by
        unfold winE
        rw [takeW_all es (fun j hj => decide_eq_true (PR.out j (by have := HE.out.1; omega))), List.take_of_length_le (by have := HE.out.1; omega)])
      have i4 : ¬ (k : Int) < k := by omega
      gi_wp2
      go_end0
      exact ⟨⟨_, rfl⟩, .inl (by first | exact ⟨_, WE.out, HJ.out⟩ | (rw [← WE.out]; exact HJ.out))⟩
end Go.Proofs.Ytklldniapombiaa

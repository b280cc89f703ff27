/-
  What l20Act gives of an empty world, in one sentence: an action, and the reader some steps further; for every reader.
  What l20Bent gives, in one sentence: a short string; for every reader and every short string.
  What DrawDskRead gives, in one sentence: a short string, with new blocks alone; for every code that lies in memory.
-/
import Derived.Test.YtlkmhmiamdbhcaaDoorDLDsk07
namespace Go.Proofs.YtlkmhmiamdbhcaaDoor
set_option maxRecDepth 100000
open Go.RowKit
set_option maxHeartbeats 2000000 in
theorem act_any (g N : Nat) (w : World) (hN : N ≤ 900000) (hR : Rd w g N) :
    Calls Tryd.prog 34 #[.pointer (some ⟨g, 0, none⟩), .agg #[.slice none 0 0, .slice none 0 0, .int .i64 0, .bool false, .slice none 0 0, .slice none 0 0, .slice none 0 0, .bool false, .int .i64 0, .int .i64 0, .int .i64 0, .int .i64 0, .int .i64 0, .slice none 0 0]] w fun x w' => ∃ k n : Int, x = .returned (.agg #[.int .i64 k, .int .i64 n]) ∧ Rd w' g (N + 3) ∧ Mv g w w' := by
  have gw : g < w.heap.size := hR.lt'
  have gb : g < w.heap.size + 1 := by omega
  have R := Lib.hid ((hR.alloc (.cells #[.slice none 0 0, .slice none 0 0, .int .i64 0, .bool false, .slice none 0 0, .slice none 0 0, .slice none 0 0, .bool false, .int .i64 0, .int .i64 0, .int .i64 0, .int .i64 0, .int .i64 0, .slice none 0 0] 80)).alloc (.cells #[.int .i64 0, .int .i64 0] 25))
  have M := Lib.hid (((Mv.refl g w).alloc (.cells #[.slice none 0 0, .slice none 0 0, .int .i64 0, .bool false, .slice none 0 0, .slice none 0 0, .slice none 0 0, .bool false, .int .i64 0, .int .i64 0, .int .i64 0, .int .i64 0, .int .i64 0, .slice none 0 0] 80)).alloc (.cells #[.int .i64 0, .int .i64 0] 25))
  have B := Lib.hid ((Blq.new w #[.slice none 0 0, .slice none 0 0, .int .i64 0, .bool false, .slice none 0 0, .slice none 0 0, .slice none 0 0, .bool false, .int .i64 0, .int .i64 0, .int .i64 0, .int .i64 0, .int .i64 0, .slice none 0 0] 80).up ((Up.refl _).alloc (.cells #[.int .i64 0, .int .i64 0] 25)))
  have X := Lib.hid (Blq.new (w.alloc (.cells #[.slice none 0 0, .slice none 0 0, .int .i64 0, .bool false, .slice none 0 0, .slice none 0 0, .slice none 0 0, .bool false, .int .i64 0, .int .i64 0, .int .i64 0, .int .i64 0, .int .i64 0, .slice none 0 0] 80)) #[.int .i64 0, .int .i64 0] 25)
  rw [World.size_alloc] at X; clear hR
  go_enter Tryd.func34, Tryd.ntmps34
  go_wp2_with fail
  refine (pick_any g (N) 10 _ ⟨by omega, by omega⟩ (by omega) R.out).mono ?_; intro x w1 pk; obtain ⟨v, rfl, v0, v1, v2, r', m'⟩ := pk.cases (by omega)
  replace R := Lib.hid r'
  replace M := Lib.hid ((M.out).trans m')
  replace X := Lib.hid ((X.out).mv m' (by omega))
  replace B := Lib.hid ((B.out).mv m' (by omega))
  clear pk r' m'
  have hv : v = 0 ∨ v = 1 ∨ v = 2 ∨ v = 3 ∨ v = 4 ∨ v = 5 ∨ v = 6 ∨ v = 7 ∨ v = 8 ∨ v = 9 := by omega
  clear v0 v1 v2
  rcases hv with rfl | rfl | rfl | rfl | rfl | rfl | rfl | rfl | rfl | rfl
  · skip
    have b0 := B.out.cell (j := 0) rfl
    have b1 := B.out.cell (j := 1) rfl
    have b2 := B.out.cell (j := 2) rfl
    have b3 := B.out.cell (j := 3) rfl
    have b4 := B.out.cell (j := 4) rfl
    have b5 := B.out.cell (j := 5) rfl
    have b6 := B.out.cell (j := 6) rfl
    have b7 := B.out.cell (j := 7) rfl
    have b8 := B.out.cell (j := 8) rfl
    have b9 := B.out.cell (j := 9) rfl
    have b10 := B.out.cell (j := 10) rfl
    have b11 := B.out.cell (j := 11) rfl
    have b12 := B.out.cell (j := 12) rfl
    have b13 := B.out.cell (j := 13) rfl
    have bl := B.out.lt
    go_wp2_with fail
    refine (pick_any g (N + 1) 1 _ ⟨by omega, by omega⟩ (by omega) R.out).mono ?_; intro x w2 pk; obtain ⟨p, rfl, p0, p1, p2, r', m'⟩ := pk.cases (by omega)
    replace R := Lib.hid r'
    replace M := Lib.hid ((M.out).trans m')
    replace X := Lib.hid ((X.out).mv m' (by omega))
    replace B := Lib.hid ((B.out).mv m' (by omega))
    clear pk r' m'; clear b0 b1 b2 b3 b4 b5 b6 b7 b8 b9 b10 b11 b12 b13; obtain ⟨c0, c1⟩ := laid2 X.out rfl (.int .i64 1) (.int .i64 p)
    have x0 := X.out.cell (j := 0) rfl
    have x1 := X.out.cell (j := 1) rfl
    have ff := X.out.unfrozen
    have RE := Lib.hid ((R.out.setCell (p := ⟨w.heap.size + 1, 0, none⟩) gb (.int .i64 1)).setCell (p := ⟨w.heap.size + 1, 1, none⟩) gb (.int .i64 p))
    have ME := Lib.hid ((M.out.setNew (p := ⟨w.heap.size + 1, 0, none⟩) (Nat.le_succ _) (.int .i64 1)).setNew (p := ⟨w.heap.size + 1, 1, none⟩) (Nat.le_succ _) (.int .i64 p))
    clear X R M B; go_wp2
    exact bodyPost_ret (v := .agg #[.int .i64 1, .int .i64 p]) (by simp [results, Tryd.results34, go_sem, c0, c1]) rfl ⟨1, p, rfl, RE.out.mono (by omega), ME.out⟩
  · skip
    have b0 := B.out.cell (j := 0) rfl
    have b1 := B.out.cell (j := 1) rfl
    have b2 := B.out.cell (j := 2) rfl
    have b3 := B.out.cell (j := 3) rfl
    have b4 := B.out.cell (j := 4) rfl
    have b5 := B.out.cell (j := 5) rfl
    have b6 := B.out.cell (j := 6) rfl
    have b7 := B.out.cell (j := 7) rfl
    have b8 := B.out.cell (j := 8) rfl
    have b9 := B.out.cell (j := 9) rfl
    have b10 := B.out.cell (j := 10) rfl
    have b11 := B.out.cell (j := 11) rfl
    have b12 := B.out.cell (j := 12) rfl
    have b13 := B.out.cell (j := 13) rfl
    have bl := B.out.lt
    go_wp2_with fail
    refine (pick_any g (N + 1) 1 _ ⟨by omega, by omega⟩ (by omega) R.out).mono ?_; intro x w2 pk; obtain ⟨p, rfl, p0, p1, p2, r', m'⟩ := pk.cases (by omega)
    replace R := Lib.hid r'
    replace M := Lib.hid ((M.out).trans m')
    replace X := Lib.hid ((X.out).mv m' (by omega))
    replace B := Lib.hid ((B.out).mv m' (by omega))
    clear pk r' m'; clear b0 b1 b2 b3 b4 b5 b6 b7 b8 b9 b10 b11 b12 b13; obtain ⟨c0, c1⟩ := laid2 X.out rfl (.int .i64 1) (.int .i64 p)
    have x0 := X.out.cell (j := 0) rfl
    have x1 := X.out.cell (j := 1) rfl
    have ff := X.out.unfrozen
    have RE := Lib.hid ((R.out.setCell (p := ⟨w.heap.size + 1, 0, none⟩) gb (.int .i64 1)).setCell (p := ⟨w.heap.size + 1, 1, none⟩) gb (.int .i64 p))
    have ME := Lib.hid ((M.out.setNew (p := ⟨w.heap.size + 1, 0, none⟩) (Nat.le_succ _) (.int .i64 1)).setNew (p := ⟨w.heap.size + 1, 1, none⟩) (Nat.le_succ _) (.int .i64 p))
    clear X R M B; go_wp2
    exact bodyPost_ret (v := .agg #[.int .i64 1, .int .i64 p]) (by simp [results, Tryd.results34, go_sem, c0, c1]) rfl ⟨1, p, rfl, RE.out.mono (by omega), ME.out⟩
  · skip
    have b0 := B.out.cell (j := 0) rfl
    have b1 := B.out.cell (j := 1) rfl
    have b2 := B.out.cell (j := 2) rfl
    have b3 := B.out.cell (j := 3) rfl
    have b4 := B.out.cell (j := 4) rfl
    have b5 := B.out.cell (j := 5) rfl
    have b6 := B.out.cell (j := 6) rfl
    have b7 := B.out.cell (j := 7) rfl
    have b8 := B.out.cell (j := 8) rfl
    have b9 := B.out.cell (j := 9) rfl
    have b10 := B.out.cell (j := 10) rfl
    have b11 := B.out.cell (j := 11) rfl
    have b12 := B.out.cell (j := 12) rfl
    have b13 := B.out.cell (j := 13) rfl
    have bl := B.out.lt
    go_wp2_with fail
    refine (pick_any g (N + 1) 1 _ ⟨by omega, by omega⟩ (by omega) R.out).mono ?_; intro x w2 pk; obtain ⟨p, rfl, p0, p1, p2, r', m'⟩ := pk.cases (by omega)
    replace R := Lib.hid r'
    replace M := Lib.hid ((M.out).trans m')
    replace X := Lib.hid ((X.out).mv m' (by omega))
    replace B := Lib.hid ((B.out).mv m' (by omega))
    clear pk r' m'; clear b0 b1 b2 b3 b4 b5 b6 b7 b8 b9 b10 b11 b12 b13; obtain ⟨c0, c1⟩ := laid2 X.out rfl (.int .i64 1) (.int .i64 p)
    have x0 := X.out.cell (j := 0) rfl
    have x1 := X.out.cell (j := 1) rfl
    have ff := X.out.unfrozen
    have RE := Lib.hid ((R.out.setCell (p := ⟨w.heap.size + 1, 0, none⟩) gb (.int .i64 1)).setCell (p := ⟨w.heap.size + 1, 1, none⟩) gb (.int .i64 p))
    have ME := Lib.hid ((M.out.setNew (p := ⟨w.heap.size + 1, 0, none⟩) (Nat.le_succ _) (.int .i64 1)).setNew (p := ⟨w.heap.size + 1, 1, none⟩) (Nat.le_succ _) (.int .i64 p))
    clear X R M B; go_wp2
    exact bodyPost_ret (v := .agg #[.int .i64 1, .int .i64 p]) (by simp [results, Tryd.results34, go_sem, c0, c1]) rfl ⟨1, p, rfl, RE.out.mono (by omega), ME.out⟩
  · skip
    have b0 := B.out.cell (j := 0) rfl
    have b1 := B.out.cell (j := 1) rfl
    have b2 := B.out.cell (j := 2) rfl
    have b3 := B.out.cell (j := 3) rfl
    have b4 := B.out.cell (j := 4) rfl
    have b5 := B.out.cell (j := 5) rfl
    have b6 := B.out.cell (j := 6) rfl
    have b7 := B.out.cell (j := 7) rfl
    have b8 := B.out.cell (j := 8) rfl
    have b9 := B.out.cell (j := 9) rfl
    have b10 := B.out.cell (j := 10) rfl
    have b11 := B.out.cell (j := 11) rfl
    have b12 := B.out.cell (j := 12) rfl
    have b13 := B.out.cell (j := 13) rfl
    have bl := B.out.lt
    go_wp2_with fail
    refine (pick_any g (N + 1) 1 _ ⟨by omega, by omega⟩ (by omega) R.out).mono ?_; intro x w2 pk; obtain ⟨p, rfl, p0, p1, p2, r', m'⟩ := pk.cases (by omega)
    replace R := Lib.hid r'
    replace M := Lib.hid ((M.out).trans m')
    replace X := Lib.hid ((X.out).mv m' (by omega))
    replace B := Lib.hid ((B.out).mv m' (by omega))
    clear pk r' m'; clear b0 b1 b2 b3 b4 b5 b6 b7 b8 b9 b10 b11 b12 b13; obtain ⟨c0, c1⟩ := laid2 X.out rfl (.int .i64 1) (.int .i64 p)
    have x0 := X.out.cell (j := 0) rfl
    have x1 := X.out.cell (j := 1) rfl
    have ff := X.out.unfrozen
    have RE := Lib.hid ((R.out.setCell (p := ⟨w.heap.size + 1, 0, none⟩) gb (.int .i64 1)).setCell (p := ⟨w.heap.size + 1, 1, none⟩) gb (.int .i64 p))
    have ME := Lib.hid ((M.out.setNew (p := ⟨w.heap.size + 1, 0, none⟩) (Nat.le_succ _) (.int .i64 1)).setNew (p := ⟨w.heap.size + 1, 1, none⟩) (Nat.le_succ _) (.int .i64 p))
    clear X R M B; go_wp2
    exact bodyPost_ret (v := .agg #[.int .i64 1, .int .i64 p]) (by simp [results, Tryd.results34, go_sem, c0, c1]) rfl ⟨1, p, rfl, RE.out.mono (by omega), ME.out⟩
  · skip
    have b0 := B.out.cell (j := 0) rfl
    have b1 := B.out.cell (j := 1) rfl
    have b2 := B.out.cell (j := 2) rfl
    have b3 := B.out.cell (j := 3) rfl
    have b4 := B.out.cell (j := 4) rfl
    have b5 := B.out.cell (j := 5) rfl
    have b6 := B.out.cell (j := 6) rfl
    have b7 := B.out.cell (j := 7) rfl
    have b8 := B.out.cell (j := 8) rfl
    have b9 := B.out.cell (j := 9) rfl
    have b10 := B.out.cell (j := 10) rfl
    have b11 := B.out.cell (j := 11) rfl
    have b12 := B.out.cell (j := 12) rfl
    have b13 := B.out.cell (j := 13) rfl
    have bl := B.out.lt
    go_wp2_with fail
    refine (pick_any g (N + 1) 1 _ ⟨by omega, by omega⟩ (by omega) R.out).mono ?_; intro x w2 pk; obtain ⟨p, rfl, p0, p1, p2, r', m'⟩ := pk.cases (by omega)
    replace R := Lib.hid r'
    replace M := Lib.hid ((M.out).trans m')
    replace X := Lib.hid ((X.out).mv m' (by omega))
    replace B := Lib.hid ((B.out).mv m' (by omega))
    clear pk r' m'; clear b0 b1 b2 b3 b4 b5 b6 b7 b8 b9 b10 b11 b12 b13
    have g2 := R.out.lt'
    go_wp2_with fail
    refine (pick_any g (N + 2) 2 _ ⟨by omega, by omega⟩ (by omega) (R.out.alloc _)).mono ?_; intro x w3 pk; obtain ⟨q, rfl, q0, q1, q2, r', m'⟩ := pk.cases (by omega)
    replace R := Lib.hid r'
    replace M := Lib.hid ((M.out.alloc _).trans m')
    replace X := Lib.hid ((X.out.up ((Up.refl _).alloc _)).mv m' (by omega))
    replace B := Lib.hid ((B.out.up ((Up.refl _).alloc _)).mv m' (by omega))
    obtain ⟨t0, t1⟩ := two_at m' g2
    have hq : q = 0 ∨ q = 1 := by omega
    clear pk r' m' q1 q2
    rcases hq with rfl | rfl
    · skip
      obtain ⟨c0, c1⟩ := laid2 X.out rfl (.int .i64 2) (.int .i64 0)
      have x0 := X.out.cell (j := 0) rfl
      have x1 := X.out.cell (j := 1) rfl
      have ff := X.out.unfrozen
      have RE := Lib.hid ((R.out.setCell (p := ⟨w.heap.size + 1, 0, none⟩) gb (.int .i64 2)).setCell (p := ⟨w.heap.size + 1, 1, none⟩) gb (.int .i64 0))
      have ME := Lib.hid ((M.out.setNew (p := ⟨w.heap.size + 1, 0, none⟩) (Nat.le_succ _) (.int .i64 2)).setNew (p := ⟨w.heap.size + 1, 1, none⟩) (Nat.le_succ _) (.int .i64 0))
      clear X R M B; go_wp2
      exact bodyPost_ret (v := .agg #[.int .i64 2, .int .i64 0]) (by simp [results, Tryd.results34, go_sem, c0, c1]) rfl ⟨2, 0, rfl, RE.out.mono (by omega), ME.out⟩
    · skip
      obtain ⟨c0, c1⟩ := laid2 X.out rfl (.int .i64 2) (.int .i64 p)
      have x0 := X.out.cell (j := 0) rfl
      have x1 := X.out.cell (j := 1) rfl
      have ff := X.out.unfrozen
      have RE := Lib.hid ((R.out.setCell (p := ⟨w.heap.size + 1, 0, none⟩) gb (.int .i64 2)).setCell (p := ⟨w.heap.size + 1, 1, none⟩) gb (.int .i64 p))
      have ME := Lib.hid ((M.out.setNew (p := ⟨w.heap.size + 1, 0, none⟩) (Nat.le_succ _) (.int .i64 2)).setNew (p := ⟨w.heap.size + 1, 1, none⟩) (Nat.le_succ _) (.int .i64 p))
      clear X R M B; go_wp2
      exact bodyPost_ret (v := .agg #[.int .i64 2, .int .i64 p]) (by simp [results, Tryd.results34, go_sem, c0, c1]) rfl ⟨2, p, rfl, RE.out.mono (by omega), ME.out⟩
  · skip
    have b0 := B.out.cell (j := 0) rfl
    have b1 := B.out.cell (j := 1) rfl
    have b2 := B.out.cell (j := 2) rfl
    have b3 := B.out.cell (j := 3) rfl
    have b4 := B.out.cell (j := 4) rfl
    have b5 := B.out.cell (j := 5) rfl
    have b6 := B.out.cell (j := 6) rfl
    have b7 := B.out.cell (j := 7) rfl
    have b8 := B.out.cell (j := 8) rfl
    have b9 := B.out.cell (j := 9) rfl
    have b10 := B.out.cell (j := 10) rfl
    have b11 := B.out.cell (j := 11) rfl
    have b12 := B.out.cell (j := 12) rfl
    have b13 := B.out.cell (j := 13) rfl
    have bl := B.out.lt
    go_wp2_with fail
    refine (pick_any g (N + 1) 1 _ ⟨by omega, by omega⟩ (by omega) R.out).mono ?_; intro x w2 pk; obtain ⟨p, rfl, p0, p1, p2, r', m'⟩ := pk.cases (by omega)
    replace R := Lib.hid r'
    replace M := Lib.hid ((M.out).trans m')
    replace X := Lib.hid ((X.out).mv m' (by omega))
    replace B := Lib.hid ((B.out).mv m' (by omega))
    clear pk r' m'; clear b0 b1 b2 b3 b4 b5 b6 b7 b8 b9 b10 b11 b12 b13
    have g2 := R.out.lt'
    go_wp2_with fail
    refine (pick_any g (N + 2) 2 _ ⟨by omega, by omega⟩ (by omega) (R.out.alloc _)).mono ?_; intro x w3 pk; obtain ⟨q, rfl, q0, q1, q2, r', m'⟩ := pk.cases (by omega)
    replace R := Lib.hid r'
    replace M := Lib.hid ((M.out.alloc _).trans m')
    replace X := Lib.hid ((X.out.up ((Up.refl _).alloc _)).mv m' (by omega))
    replace B := Lib.hid ((B.out.up ((Up.refl _).alloc _)).mv m' (by omega))
    obtain ⟨t0, t1⟩ := two_at m' g2
    have hq : q = 0 ∨ q = 1 := by omega
    clear pk r' m' q1 q2
    rcases hq with rfl | rfl
    · skip
      obtain ⟨c0, c1⟩ := laid2 X.out rfl (.int .i64 2) (.int .i64 0)
      have x0 := X.out.cell (j := 0) rfl
      have x1 := X.out.cell (j := 1) rfl
      have ff := X.out.unfrozen
      have RE := Lib.hid ((R.out.setCell (p := ⟨w.heap.size + 1, 0, none⟩) gb (.int .i64 2)).setCell (p := ⟨w.heap.size + 1, 1, none⟩) gb (.int .i64 0))
      have ME := Lib.hid ((M.out.setNew (p := ⟨w.heap.size + 1, 0, none⟩) (Nat.le_succ _) (.int .i64 2)).setNew (p := ⟨w.heap.size + 1, 1, none⟩) (Nat.le_succ _) (.int .i64 0))
      clear X R M B; go_wp2
      exact bodyPost_ret (v := .agg #[.int .i64 2, .int .i64 0]) (by simp [results, Tryd.results34, go_sem, c0, c1]) rfl ⟨2, 0, rfl, RE.out.mono (by omega), ME.out⟩
    · skip
      obtain ⟨c0, c1⟩ := laid2 X.out rfl (.int .i64 2) (.int .i64 p)
      have x0 := X.out.cell (j := 0) rfl
      have x1 := X.out.cell (j := 1) rfl
      have ff := X.out.unfrozen
      have RE := Lib.hid ((R.out.setCell (p := ⟨w.heap.size + 1, 0, none⟩) gb (.int .i64 2)).setCell (p := ⟨w.heap.size + 1, 1, none⟩) gb (.int .i64 p))
      have ME := Lib.hid ((M.out.setNew (p := ⟨w.heap.size + 1, 0, none⟩) (Nat.le_succ _) (.int .i64 2)).setNew (p := ⟨w.heap.size + 1, 1, none⟩) (Nat.le_succ _) (.int .i64 p))
      clear X R M B; go_wp2
      exact bodyPost_ret (v := .agg #[.int .i64 2, .int .i64 p]) (by simp [results, Tryd.results34, go_sem, c0, c1]) rfl ⟨2, p, rfl, RE.out.mono (by omega), ME.out⟩
  · skip
    have b0 := B.out.cell (j := 0) rfl
    have b1 := B.out.cell (j := 1) rfl
    have b2 := B.out.cell (j := 2) rfl
    have b3 := B.out.cell (j := 3) rfl
    have b4 := B.out.cell (j := 4) rfl
    have b5 := B.out.cell (j := 5) rfl
    have b6 := B.out.cell (j := 6) rfl
    have b7 := B.out.cell (j := 7) rfl
    have b8 := B.out.cell (j := 8) rfl
    have b9 := B.out.cell (j := 9) rfl
    have b10 := B.out.cell (j := 10) rfl
    have b11 := B.out.cell (j := 11) rfl
    have b12 := B.out.cell (j := 12) rfl
    have b13 := B.out.cell (j := 13) rfl
    have bl := B.out.lt
    go_wp2_with fail
    refine (pick_any g (N + 1) 1 _ ⟨by omega, by omega⟩ (by omega) R.out).mono ?_; intro x w2 pk; obtain ⟨p, rfl, p0, p1, p2, r', m'⟩ := pk.cases (by omega)
    replace R := Lib.hid r'
    replace M := Lib.hid ((M.out).trans m')
    replace X := Lib.hid ((X.out).mv m' (by omega))
    replace B := Lib.hid ((B.out).mv m' (by omega))
    clear pk r' m'; clear b0 b1 b2 b3 b4 b5 b6 b7 b8 b9 b10 b11 b12 b13
    have g2 := R.out.lt'
    go_wp2_with fail
    refine (pick_any g (N + 2) 2 _ ⟨by omega, by omega⟩ (by omega) (R.out.alloc _)).mono ?_; intro x w3 pk; obtain ⟨q, rfl, q0, q1, q2, r', m'⟩ := pk.cases (by omega)
    replace R := Lib.hid r'
    replace M := Lib.hid ((M.out.alloc _).trans m')
    replace X := Lib.hid ((X.out.up ((Up.refl _).alloc _)).mv m' (by omega))
    replace B := Lib.hid ((B.out.up ((Up.refl _).alloc _)).mv m' (by omega))
    obtain ⟨t0, t1⟩ := two_at m' g2
    have hq : q = 0 ∨ q = 1 := by omega
    clear pk r' m' q1 q2
    rcases hq with rfl | rfl
    · skip
      obtain ⟨c0, c1⟩ := laid2 X.out rfl (.int .i64 2) (.int .i64 0)
      have x0 := X.out.cell (j := 0) rfl
      have x1 := X.out.cell (j := 1) rfl
      have ff := X.out.unfrozen
      have RE := Lib.hid ((R.out.setCell (p := ⟨w.heap.size + 1, 0, none⟩) gb (.int .i64 2)).setCell (p := ⟨w.heap.size + 1, 1, none⟩) gb (.int .i64 0))
      have ME := Lib.hid ((M.out.setNew (p := ⟨w.heap.size + 1, 0, none⟩) (Nat.le_succ _) (.int .i64 2)).setNew (p := ⟨w.heap.size + 1, 1, none⟩) (Nat.le_succ _) (.int .i64 0))
      clear X R M B; go_wp2
      exact bodyPost_ret (v := .agg #[.int .i64 2, .int .i64 0]) (by simp [results, Tryd.results34, go_sem, c0, c1]) rfl ⟨2, 0, rfl, RE.out.mono (by omega), ME.out⟩
    · skip
      obtain ⟨c0, c1⟩ := laid2 X.out rfl (.int .i64 2) (.int .i64 p)
      have x0 := X.out.cell (j := 0) rfl
      have x1 := X.out.cell (j := 1) rfl
      have ff := X.out.unfrozen
      have RE := Lib.hid ((R.out.setCell (p := ⟨w.heap.size + 1, 0, none⟩) gb (.int .i64 2)).setCell (p := ⟨w.heap.size + 1, 1, none⟩) gb (.int .i64 p))
      have ME := Lib.hid ((M.out.setNew (p := ⟨w.heap.size + 1, 0, none⟩) (Nat.le_succ _) (.int .i64 2)).setNew (p := ⟨w.heap.size + 1, 1, none⟩) (Nat.le_succ _) (.int .i64 p))
      clear X R M B; go_wp2
      exact bodyPost_ret (v := .agg #[.int .i64 2, .int .i64 p]) (by simp [results, Tryd.results34, go_sem, c0, c1]) rfl ⟨2, p, rfl, RE.out.mono (by omega), ME.out⟩
  · skip
    obtain ⟨c0, c1⟩ := laid2 X.out rfl (.int .i64 3) (.int .i64 0)
    have x0 := X.out.cell (j := 0) rfl
    have x1 := X.out.cell (j := 1) rfl
    have ff := X.out.unfrozen
    have RE := Lib.hid ((R.out.setCell (p := ⟨w.heap.size + 1, 0, none⟩) gb (.int .i64 3)).setCell (p := ⟨w.heap.size + 1, 1, none⟩) gb (.int .i64 0))
    have ME := Lib.hid ((M.out.setNew (p := ⟨w.heap.size + 1, 0, none⟩) (Nat.le_succ _) (.int .i64 3)).setNew (p := ⟨w.heap.size + 1, 1, none⟩) (Nat.le_succ _) (.int .i64 0))
    clear X R M B; go_wp2
    exact bodyPost_ret (v := .agg #[.int .i64 3, .int .i64 0]) (by simp [results, Tryd.results34, go_sem, c0, c1]) rfl ⟨3, 0, rfl, RE.out.mono (by omega), ME.out⟩
  · skip
    obtain ⟨c0, c1⟩ := laid2 X.out rfl (.int .i64 4) (.int .i64 0)
    have x0 := X.out.cell (j := 0) rfl
    have x1 := X.out.cell (j := 1) rfl
    have ff := X.out.unfrozen
    have RE := Lib.hid ((R.out.setCell (p := ⟨w.heap.size + 1, 0, none⟩) gb (.int .i64 4)).setCell (p := ⟨w.heap.size + 1, 1, none⟩) gb (.int .i64 0))
    have ME := Lib.hid ((M.out.setNew (p := ⟨w.heap.size + 1, 0, none⟩) (Nat.le_succ _) (.int .i64 4)).setNew (p := ⟨w.heap.size + 1, 1, none⟩) (Nat.le_succ _) (.int .i64 0))
    clear X R M B; go_wp2
    exact bodyPost_ret (v := .agg #[.int .i64 4, .int .i64 0]) (by simp [results, Tryd.results34, go_sem, c0, c1]) rfl ⟨4, 0, rfl, RE.out.mono (by omega), ME.out⟩
  · skip
    have b0 := B.out.cell (j := 0) rfl
    have b1 := B.out.cell (j := 1) rfl
    have b2 := B.out.cell (j := 2) rfl
    have b3 := B.out.cell (j := 3) rfl
    have b4 := B.out.cell (j := 4) rfl
    have b5 := B.out.cell (j := 5) rfl
    have b6 := B.out.cell (j := 6) rfl
    have b7 := B.out.cell (j := 7) rfl
    have b8 := B.out.cell (j := 8) rfl
    have b9 := B.out.cell (j := 9) rfl
    have b10 := B.out.cell (j := 10) rfl
    have b11 := B.out.cell (j := 11) rfl
    have b12 := B.out.cell (j := 12) rfl
    have b13 := B.out.cell (j := 13) rfl
    have bl := B.out.lt
    go_wp2_with fail
    refine (pick_any g (N + 1) 1 _ ⟨by omega, by omega⟩ (by omega) R.out).mono ?_; intro x w2 pk; obtain ⟨p, rfl, p0, p1, p2, r', m'⟩ := pk.cases (by omega)
    replace R := Lib.hid r'
    replace M := Lib.hid ((M.out).trans m')
    replace X := Lib.hid ((X.out).mv m' (by omega))
    replace B := Lib.hid ((B.out).mv m' (by omega))
    clear pk r' m'; clear b0 b1 b2 b3 b4 b5 b6 b7 b8 b9 b10 b11 b12 b13; obtain ⟨c0, c1⟩ := laid2 X.out rfl (.int .i64 5) (.int .i64 p)
    have x0 := X.out.cell (j := 0) rfl
    have x1 := X.out.cell (j := 1) rfl
    have ff := X.out.unfrozen
    have RE := Lib.hid ((R.out.setCell (p := ⟨w.heap.size + 1, 0, none⟩) gb (.int .i64 5)).setCell (p := ⟨w.heap.size + 1, 1, none⟩) gb (.int .i64 p))
    have ME := Lib.hid ((M.out.setNew (p := ⟨w.heap.size + 1, 0, none⟩) (Nat.le_succ _) (.int .i64 5)).setNew (p := ⟨w.heap.size + 1, 1, none⟩) (Nat.le_succ _) (.int .i64 p))
    clear X R M B; go_wp2
    exact bodyPost_ret (v := .agg #[.int .i64 5, .int .i64 p]) (by simp [results, Tryd.results34, go_sem, c0, c1]) rfl ⟨5, p, rfl, RE.out.mono (by omega), ME.out⟩
end Go.Proofs.YtlkmhmiamdbhcaaDoor

namespace Go.Proofs.YtlkmhmiamdbhcaaDoor
set_option maxRecDepth 100000
open Go.RowKit
set_option maxHeartbeats 2000000 in
theorem bent_any (g N : Nat) (s : List UInt8) (w : World) (hs : s.length ≤ 100) (hN : N ≤ 900000) (hR : Rd w g N) :
    Calls Tryd.prog 35 #[.pointer (some ⟨g, 0, none⟩), .string ⟨s.toArray⟩] w fun x w' => (∃ l : List UInt8, x = .returned (.string ⟨l.toArray⟩) ∧ l.length ≤ 1000) ∧ Mv g w w' := by
  have szs : (⟨s.toArray⟩ : ByteArray).size = s.length := by simp [ByteArray.size]
  have gw : g < w.heap.size := hR.lt'
  have R := Lib.hid hR
  have M := Lib.hid (Mv.refl g w)
  have i1 : IntKind.i64.wrap ((s.length : Int) + 1) = (s.length : Int) + 1 := IntWalk.i64_in _ (by omega)
  clear hR
  go_enter Tryd.func35, Tryd.ntmps35
  go_wp2_with fail
  refine (pick_any g N ((s.length : Int) + 1) _ ⟨by omega, by omega⟩ (by omega) R.out).mono ?_; intro x w1 pk; obtain ⟨ki, rfl, k0, k1, k2, r', m'⟩ := pk.cases (by omega); obtain ⟨k, rfl⟩ : ∃ k : Nat, ki = k := ⟨ki.toNat, by omega⟩
  have kl : k ≤ s.length := by omega
  replace R := Lib.hid r'
  replace M := Lib.hid (M.out.trans m')
  clear pk r' m' k1 k2 i1
  go_wp2_with fail
  refine (pick_any g (N + 1) 256 _ ⟨by omega, by omega⟩ (by omega) R.out).mono ?_; intro x w2 pk; obtain ⟨b, rfl, b0, b1, b2, r', m'⟩ := pk.cases (by omega)
  replace R := Lib.hid r'
  replace M := Lib.hid (M.out.trans m')
  have g2 : g < w2.heap.size := r'.lt'
  clear pk r' m'
  go_wp2_with fail
  refine (pick_any g (N + 2) 5 _ ⟨by omega, by omega⟩ (by omega) (R.out.alloc _)).mono ?_; intro x w3 pk; obtain ⟨q, rfl, q0, q1, q2, r', m'⟩ := pk.cases (by omega)
  have A3 := Lib.hid ((Blq.new w2 #[.int .i64 32, .int .i64 48, .int .i64 49, .int .i64 100, .int .i64 b] 3).mv m' (by omega))
  obtain ⟨u, hu, hb⟩ : ∃ u : Nat, u < 256 ∧ w3.cell? ⟨w2.heap.size, q.toNat, none⟩ = some (.int .i64 (u : Int)) := by
    have hq : q = 0 ∨ q = 1 ∨ q = 2 ∨ q = 3 ∨ q = 4 := by omega
    rcases hq with rfl | rfl | rfl | rfl | rfl
    · exact ⟨32, by omega, A3.out.cell (j := 0) rfl⟩
    · exact ⟨48, by omega, A3.out.cell (j := 1) rfl⟩
    · exact ⟨49, by omega, A3.out.cell (j := 2) rfl⟩
    · exact ⟨100, by omega, A3.out.cell (j := 3) rfl⟩
    · exact ⟨b.toNat, by omega, by rw [show ((b.toNat : Nat) : Int) = b by omega]; exact A3.out.cell (j := 4) rfl⟩
  have q5 : q < 5 := by omega
  replace R := Lib.hid r'
  replace M := Lib.hid ((M.out.alloc _).trans m')
  clear pk r' m' q1 q2 A3 b0 b1 b2
  have cv := conv1 w3 u hu
  have hu2 : (u : Int) < 256 := by omega
  generalize UInt8.ofNat u = ch at cv
  go_wp2_with fail
  refine (pick_any g (N + 3) 3 _ ⟨by omega, by omega⟩ (by omega) (R.out.alloc _)).mono ?_; intro x w4 pk; obtain ⟨z, rfl, z0, z1, z2, r', m'⟩ := pk.cases (by omega)
  replace M := Lib.hid ((M.out.alloc _).trans m')
  clear pk r' m' cv hb R
  have e1 : (⟨s.toArray⟩ : ByteArray).extract 0 k = ⟨(s.take k).toArray⟩ := by rw [ByteArray.extract_mk, List.drop_zero, Nat.sub_zero]
  have e2 : (⟨s.toArray⟩ : ByteArray).extract k s.length = ⟨(s.drop k).toArray⟩ := by rw [ByteArray.extract_mk, List.take_of_length_le (by rw [List.length_drop]; omega)]
  have e3 : (⟨s.toArray⟩ : ByteArray).extract (k + 1) s.length = ⟨(s.drop (k + 1)).toArray⟩ := by rw [ByteArray.extract_mk, List.take_of_length_le (by rw [List.length_drop]; omega)]
  have lp : (s.take k).length ≤ 100 := by rw [List.length_take]; omega
  have ld : (s.drop k).length ≤ 100 := by rw [List.length_drop]; omega
  have le : (s.drop (k + 1)).length ≤ 100 := by rw [List.length_drop]; omega
  generalize s.take k = p at e1 lp
  generalize s.drop k = d at e2 ld
  generalize s.drop (k + 1) = e at e3 le
  obtain ⟨r1, hr1⟩ : ∃ r, r = p ++ [ch] := ⟨_, rfl⟩
  have c1 := str_add p [ch] (by simp; omega)
  have l1 : r1.length ≤ 101 := by rw [hr1]; simp; omega
  rw [← hr1] at c1
  have c2 := str_add r1 d (by omega)
  have c3 := str_add p e (by omega)
  have c4 := str_add r1 e (by omega)
  have n2 : (r1 ++ d).length ≤ 1000 := by rw [List.length_append]; omega
  have n3 : (p ++ e).length ≤ 1000 := by rw [List.length_append]; omega
  have n4 : (r1 ++ e).length ≤ 1000 := by rw [List.length_append]; omega
  generalize r1 ++ d = o2 at c2 n2
  generalize p ++ e = o3 at c3 n3
  generalize r1 ++ e = o4 at c4 n4
  clear hr1
  have ki2 : (k : Int) ≤ s.length := by omega
  have hz : z = 0 ∨ z = 1 ∨ z = 2 := by omega
  clear z0 z1 z2
  rcases hz with rfl | rfl | rfl
  · go_wp2_with fail
    go_region
    go_wp2; go_ret
    exact ⟨⟨_, rfl, n2⟩, M.out.drew⟩
  · by_cases hk : (k : Int) < s.length
    · have hk1 : (k : Int) + 1 ≤ s.length := by omega
      have i2 : IntKind.i64.wrap ((k : Int) + 1) = (k : Int) + 1 := IntWalk.i64_in _ (by omega)
      go_wp2_with fail
      go_region
      go_wp2; go_ret
      exact ⟨⟨_, rfl, n3⟩, M.out.drew⟩
    · go_wp2
      go_ret
      exact ⟨⟨_, rfl, by omega⟩, M.out⟩
  · by_cases hk : (k : Int) < s.length
    · have hk1 : (k : Int) + 1 ≤ s.length := by omega
      have i2 : IntKind.i64.wrap ((k : Int) + 1) = (k : Int) + 1 := IntWalk.i64_in _ (by omega)
      go_wp2_with fail
      go_region
      go_wp2; go_ret
      exact ⟨⟨_, rfl, n4⟩, M.out.drew⟩
    · go_wp2
      go_ret
      exact ⟨⟨_, rfl, by omega⟩, M.out⟩
end Go.Proofs.YtlkmhmiamdbhcaaDoor

namespace Go.Proofs.YtlkmhmiamdbhcaaDoor
set_option maxRecDepth 100000
open Go.RowKit
theorem dsk_short (k n : Int) : (dskS k n).length ≤ 9 := by
  rcases Classical.em (dskS k n = []) with e | e
  · rw [e]; simp
  · rcases dsk_form rfl e with ⟨_, _, h⟩ | ⟨_, _, h⟩ | ⟨u, hu, _, h⟩
    · rw [h]; decide
    · rw [h]; decide
    · have a := List.all_eq_true.1 all2 u (List.mem_range.2 hu)
      simp only [Bool.and_eq_true, decide_eq_true_eq] at a
      have l3 := a.1.2
      rcases h with ⟨_, h⟩ | ⟨_, h⟩ | ⟨_, h⟩
      · rw [h]; simp; omega
      · rw [h]; simp; omega
      · rw [h]; simp; omega
set_option maxHeartbeats 2000000 in
theorem drawDR_any (A : Option Addr) (n cap : Nat) (w : World) (hc : n ≤ cap) (hmax : cap ≤ 9223372036854775807) (hB : Bys w A n w.heap.size) :
    Calls Tryd.prog 18 #[.slice A n cap] w fun x w' => (∃ l : List UInt8, x = .returned (.string ⟨l.toArray⟩) ∧ l.length ≤ 1000) ∧ Up w w' := by
  have CO := Lib.hid (open_any A n cap _ hc hmax hB)
  clear hB
  go_enter Tryd.func18, Tryd.ntmps18
  go_wp2_with fail
  refine CO.out.mono ?_; rintro x w1 ⟨g, rfl, hg, r1, u1⟩
  have R1 := Lib.hid r1
  have U := Lib.hid u1
  clear r1 u1 CO
  go_wp2_with fail
  refine (act_any g 0 _ (by omega) R1.out).mono ?_; rintro x w2 ⟨k, m, rfl, r', m'⟩
  have R := Lib.hid r'
  replace U := Lib.hid (m'.up U.out hg)
  clear r' m' R1
  go_wp2_with fail
  refine (specDsk_any k m _).mono ?_; rintro x w3 ⟨rfl, u'⟩
  replace R := Lib.hid (R.out.up u')
  replace U := Lib.hid (U.out.trans u')
  clear u'
  have ls := dsk_short k m
  generalize dskS k m = s at ls ⊢
  go_wp2_with fail
  refine (pick_any g (0 + 3) 4 _ ⟨by omega, by omega⟩ (by omega) R.out).mono ?_; intro x w4 pk; obtain ⟨v, rfl, v0, v1, v2, r', m'⟩ := pk.cases (by omega)
  replace R := Lib.hid r'
  have g4 : g < w4.heap.size := r'.lt'
  replace U := Lib.hid (m'.up U.out hg)
  have hv : v = 0 ∨ v = 1 ∨ v = 2 ∨ v = 3 := by omega
  clear pk r' m' v0 v1 v2
  rcases hv with rfl | rfl | rfl | rfl
  · go_wp2_with fail
    refine (bent_any g (0 + 3 + 1) s _ (by omega) (by omega) R.out).mono ?_; rintro x w5 ⟨⟨l, rfl, hl⟩, m'⟩
    replace U := Lib.hid (m'.up U.out hg)
    clear m'; go_wp2; go_ret
    exact ⟨⟨l, rfl, hl⟩, U.out⟩
  · go_wp2_with fail
    refine (pick_any g (0 + 3 + 1) 11 _ ⟨by omega, by omega⟩ (by omega) (R.out.alloc _)).mono ?_; intro x w5 pk; obtain ⟨q, rfl, q0, q1, q2, r', m'⟩ := pk.cases (by omega)
    have A5 := Lib.hid ((Blq.new w4 #[.string ⟨#[]⟩, .string ⟨#[100, 111]⟩, .string ⟨#[100, 111, 32]⟩, .string ⟨#[100, 111, 32, 48, 49]⟩, .string ⟨#[104, 101, 97, 114, 32, 49, 48, 48, 48]⟩, .string ⟨#[98, 101, 103, 105, 110, 32, 48]⟩, .string ⟨#[118, 105, 115, 105, 116, 32, 49]⟩, .string ⟨#[102, 114, 101, 101, 32, 120]⟩, .string ⟨#[100, 111, 32, 49, 32, 50]⟩, .string ⟨#[98, 101, 103, 105, 110]⟩, .string ⟨#[115, 116, 111, 112, 32, 49]⟩] 9).mv m' (by omega))
    replace U := Lib.hid (m'.up (U.out.alloc _) hg)
    obtain ⟨l, hl, hb⟩ : ∃ l : List UInt8, l.length ≤ 1000 ∧ w5.cell? ⟨w4.heap.size, q.toNat, none⟩ = some (.string ⟨l.toArray⟩) := by
      have hq : q = 0 ∨ q = 1 ∨ q = 2 ∨ q = 3 ∨ q = 4 ∨ q = 5 ∨ q = 6 ∨ q = 7 ∨ q = 8 ∨ q = 9 ∨ q = 10 := by omega
      rcases hq with rfl | rfl | rfl | rfl | rfl | rfl | rfl | rfl | rfl | rfl | rfl
      · exact ⟨[], by decide, A5.out.cell (j := 0) rfl⟩
      · exact ⟨[100, 111], by decide, A5.out.cell (j := 1) rfl⟩
      · exact ⟨[100, 111, 32], by decide, A5.out.cell (j := 2) rfl⟩
      · exact ⟨[100, 111, 32, 48, 49], by decide, A5.out.cell (j := 3) rfl⟩
      · exact ⟨[104, 101, 97, 114, 32, 49, 48, 48, 48], by decide, A5.out.cell (j := 4) rfl⟩
      · exact ⟨[98, 101, 103, 105, 110, 32, 48], by decide, A5.out.cell (j := 5) rfl⟩
      · exact ⟨[118, 105, 115, 105, 116, 32, 49], by decide, A5.out.cell (j := 6) rfl⟩
      · exact ⟨[102, 114, 101, 101, 32, 120], by decide, A5.out.cell (j := 7) rfl⟩
      · exact ⟨[100, 111, 32, 49, 32, 50], by decide, A5.out.cell (j := 8) rfl⟩
      · exact ⟨[98, 101, 103, 105, 110], by decide, A5.out.cell (j := 9) rfl⟩
      · exact ⟨[115, 116, 111, 112, 32, 49], by decide, A5.out.cell (j := 10) rfl⟩
    have q11 : q < 11 := by omega
    clear pk r' m' A5 q1 q2; go_wp2; go_ret
    exact ⟨⟨l, rfl, hl⟩, U.out⟩
  · go_wp2
    go_ret
    exact ⟨⟨s, rfl, by omega⟩, U.out⟩
  · go_wp2
    go_ret
    exact ⟨⟨s, rfl, by omega⟩, U.out⟩
end Go.Proofs.YtlkmhmiamdbhcaaDoor

/-
  What spec.DskRead returns, in one sentence: what happens that the string says, if it says any; for every string of at most a million bytes.
  What FnRecText returns, in one sentence: true, with new blocks alone; for every two codes where the tables hold what the program's text lays.
-/
import Derived.Deep.AppendLies
import Derived.Deep.Draws
import Derived.Laws.OwnMore
import Derived.Laws.StructEq
import Derived.Maps.AppendAt
import Derived.OwnWalk
import Derived.RegionTactic
import Derived.StillTailTactics
import Derived.Test.YtlkmhmiamdbhcaaDoorDLDsk01
import Derived.Test.YtlkmhmiamdbhcaaDoorDLDsk02
import Derived.Test.YtlkmhmiamdbhcaaDoorDLDsk03
import Derived.Test.YtlkmhmiamdbhcaaDoorDLDsk04
import Derived.Test.YtlkmhmiamdbhcaaDoorDLDsk07
import Derived.Test.YtlkmhmiamdbhcaaDoorDLDsk09
namespace Go.Proofs.YtlkmhmiamdbhcaaDoor
set_option maxRecDepth 100000
open Go.RowKit
theorem block_lt' {w : World} {b o : Nat} {v : Value} (h : w.cell? ⟨b, o, none⟩ = some v) : b < w.heap.size := World.block_lt_of_cell? _ _ h
set_option maxHeartbeats 2000000 in
theorem specRead_any (s : List UInt8) (hl : s.length ≤ 1048576) (w : World) :
    Calls Tryd.prog 11 #[.string ⟨s.toArray⟩] w fun x w' => (∃ k n b, x = .returned (.tuple #[.agg #[.int .i64 k, .int .i64 n], .bool b]) ∧ ResA s k n b) ∧ Up w w' := by
  have szs : (⟨s.toArray⟩ : ByteArray).size = s.length := by simp [ByteArray.size]
  have U := Lib.hid ((Up.refl w).alloc (.cells #[.int .i64 0, .int .i64 0] 25))
  have X := Lib.hid (Blq.new w #[.int .i64 0, .int .i64 0] 25)
  go_enter Tryd.func11, Tryd.ntmps11
  go_wp2
  go_loopw [4, 5, 6] (fun wv rv iv wr => wv = .string ⟨s.toArray⟩ ∧ rv = .string ⟨#[]⟩ ∧ ∃ i : Nat, iv = .int .i64 i ∧ i ≤ 9 ∧ i ≤ s.length ∧ (∀ (j : Nat) c, j < i → s[j]? = some c → c.toNat ≠ 32) ∧ wr = w.alloc (.cells #[.int .i64 0, .int .i64 0] 25)) (fun _ _ iv _ => 9 - (intOf iv).toNat)
  case atStart => exact ⟨rfl, rfl, 0, rfl, by omega, by omega, fun j c h => absurd h (by omega), rfl⟩
  case round =>
    obtain ⟨rfl, rfl, i, rfl, i9, il, hno, rfl⟩ := hrel
    by_cases hend : i = s.length ∨ i = 9
    · have SP := Lib.hid (show SpW s s [] from .inr ⟨fun j c hj hc => hno j c (by
        have := (List.getElem?_eq_some_iff.1 hc).1
        omega) hc, rfl, rfl⟩)
      by_cases hen : i = s.length
      · have e1 : ¬ (i : Int) < s.length := by omega
        have QF := Lib.hid (fun k n (h1 : dskS k n = s) (h2 : s ≠ []) => word_of h1 h2 SP.out)
        have SN := Lib.hid (show s = [] → s = [] from fun h => by
          rcases SP.out with ⟨i, _, _, e, _⟩ | ⟨_, e, _⟩
          · rw [h] at e
            have := congrArg List.length e
            simp at this
          · exact e.trans h)
        go_wp2_with fail
        refine (names_any _).mono ?_; rintro x wN ⟨gN, rfl, nb, u⟩
        replace U := Lib.hid (U.out.trans u)
        replace X := Lib.hid (X.out.up u)
        have NB := Lib.hid nb
        clear u nb; go_wp2
        go_loopw [8] (fun kv wr => ∃ q : Nat, kv = .int .i64 q ∧ 1 ≤ q ∧ q ≤ 6 ∧ (∀ k n : Int, k < q → dskS k n = s → s = []) ∧ Up w wr ∧ Blq wr w.heap.size 25 #[.int .i64 0, .int .i64 0] ∧ Blq wr gN 9 #[.string ⟨([] : List UInt8).toArray⟩, .string ⟨([100, 111] : List UInt8).toArray⟩, .string ⟨([104, 101, 97, 114] : List UInt8).toArray⟩, .string ⟨([98, 101, 103, 105, 110] : List UInt8).toArray⟩, .string ⟨([118, 105, 115, 105, 116] : List UInt8).toArray⟩, .string ⟨([102, 114, 101, 101] : List UInt8).toArray⟩]) (fun kv _ => 6 - (intOf kv).toNat)
        case atStart => exact ⟨1, rfl, by omega, by omega, fun k n h1 h2 => by
          rcases Classical.em (s = []) with e | e
          · exact e
          · have := kind_in h2 e
            omega, U.out, X.out, NB.out⟩
        case round =>
          obtain ⟨q, rfl, q1, q6, hno, ur, xr, nr⟩ := hrel
          have XR := Lib.hid xr
          have UR := Lib.hid ur
          have HN := Lib.hid hno
          have NR := Lib.hid nr
          have sz := xr.lt
          have gl := nr.lt
          clear hno ur xr nr
          by_cases hq : q = 6
          · subst hq
            obtain ⟨k0, k1⟩ := laid2 XR.out rfl (.int .i64 0) (.int .i64 0)
            have x0 := XR.out.cell (j := 0) rfl
            have x1 := XR.out.cell (j := 1) rfl
            have ff := XR.out.unfrozen
            have UE := Lib.hid ((UR.out.setCell (p := ⟨w.heap.size, 0, none⟩) (Nat.le_refl _) (.int .i64 0)).setCell (p := ⟨w.heap.size, 1, none⟩) (Nat.le_refl _) (.int .i64 0))
            have RS := Lib.hid (show ResA s 0 0 false from .inr ⟨rfl, rfl, rfl, fun k n h => by
              rcases Classical.em (s = []) with e | e
              · exact e
              · exact HN.out k n (by have := kind_in h e; omega) h⟩)
            go_wp2
            exact bodyPost_ret (v := .tuple #[.agg #[.int .i64 0, .int .i64 0], .bool false]) (by simp [results, Tryd.results11, go_sem, k0, k1]) rfl ⟨⟨0, 0, false, rfl, RS.out⟩, UE.out⟩
          · have q5 : (q : Int) < 6 := by omega
            have i1 : IntKind.i64.wrap ((q : Int) + 1) = (q : Int) + 1 := IntWalk.i64_in _ (by omega)
            have hN : (#[.string ⟨([] : List UInt8).toArray⟩, .string ⟨([100, 111] : List UInt8).toArray⟩, .string ⟨([104, 101, 97, 114] : List UInt8).toArray⟩, .string ⟨([98, 101, 103, 105, 110] : List UInt8).toArray⟩, .string ⟨([118, 105, 115, 105, 116] : List UInt8).toArray⟩, .string ⟨([102, 114, 101, 101] : List UInt8).toArray⟩] : Array Value)[q]? = some (.string ⟨(wordS q).toArray⟩) := by
              have : q = 1 ∨ q = 2 ∨ q = 3 ∨ q = 4 ∨ q = 5 := by omega
              rcases this with rfl | rfl | rfl | rfl | rfl <;> rfl
            have WN := Lib.hid (show wordS q ≠ [] by
              have : q = 1 ∨ q = 2 ∨ q = 3 ∨ q = 4 ∨ q = 5 := by omega
              rcases this with rfl | rfl | rfl | rfl | rfl <;> simp [wordS])
            have nm := NR.out.cell hN
            have QQ := Lib.hid (fun n (h1 : dskS q n = s) (h2 : s ≠ []) => QF.out q n h1 h2)
            have CSq := Lib.hid (fun n W => specDsk_any q n W)
            obtain ⟨wq, hwq⟩ : ∃ l, l = wordS q := ⟨_, rfl⟩; rw [← hwq] at nm QQ WN; clear hwq hN
            · have hr : ([] : List UInt8) = [] := rfl
              have BB := Lib.hid (fun n (h1 : dskS q n = s) (h2 : s ≠ []) => (show s = wq ∧ n = 0 from by
                obtain ⟨a, b⟩ := QQ.out n h1 h2; refine ⟨a, ?_⟩
                rcases b with ⟨_, b⟩ | ⟨u, hu, _, b⟩
                · exact b
                · exfalso
                  have t := List.all_eq_true.1 all2 u (List.mem_range.2 hu)
                  simp only [Bool.and_eq_true, decide_eq_true_eq] at t
                  exact t.2 (b.symm.trans hr)))
              clear QQ hr
              by_cases hw : wq = s
              · have hw1 : (wq == s) = true := by rw [hw]; exact BEq.rfl
                go_wp2_with fail
                refine (CSq.out _ _).mono ?_; rintro x w3 ⟨rfl, u⟩
                replace UR := Lib.hid ((UR.out.alloc _).trans u)
                replace XR := Lib.hid ((XR.out.up ((Up.refl _).alloc _)).up u)
                replace NR := Lib.hid ((NR.out.up ((Up.refl _).alloc _)).up u)
                have Y := Lib.hid ((Blq.new wr #[.int .i64 (q : Int), .int .i64 0] 25).up u)
                have y0 := Y.out.cell (j := 0) rfl
                have y1 := Y.out.cell (j := 1) rfl
                clear u
                by_cases hd : dskS q 0 = s
                · obtain ⟨k0, k1⟩ := laid2 XR.out rfl (.int .i64 q) (.int .i64 0)
                  have x0 := XR.out.cell (j := 0) rfl
                  have x1 := XR.out.cell (j := 1) rfl
                  have ff := XR.out.unfrozen
                  have UE := Lib.hid ((UR.out.setCell (p := ⟨w.heap.size, 0, none⟩) (Nat.le_refl _) (.int .i64 q)).setCell (p := ⟨w.heap.size, 1, none⟩) (Nat.le_refl _) (.int .i64 0))
                  have RS := Lib.hid (show ResA s q 0 true from .inl ⟨rfl, hd, fun h => WN.out (hw.trans (SN.out h))⟩)
                  have hd1 : (dskS q 0 == s) = true := by rw [hd]; exact BEq.rfl
                  generalize dskS q 0 = l at hd hd1 ⊢
                  go_wp2
                  exact bodyPost_ret (v := .tuple #[.agg #[.int .i64 q, .int .i64 0], .bool true]) (by simp [results, Tryd.results11, go_sem, k0, k1]) rfl ⟨⟨q, 0, true, rfl, RS.out⟩, UE.out⟩
                · have hd1 : (dskS q 0 == s) = false := by rw [beq_eq_false_iff_ne]; exact hd
                  have hd2 : ¬ s = dskS q 0 := fun e => hd e.symm
                  have HD := Lib.hid hd
                  generalize dskS q 0 = l at hd hd1 hd2 ⊢
                  go_wp2
                  go_roundw
                  case rel => exact ⟨q + 1, rfl, by omega, by omega, fun k n h1 h2 => by
                    rcases Int.lt_or_le k q with h | h
                    · exact HN.out k n h h2
                    · obtain rfl : k = q := by omega
                      rcases Classical.em (s = []) with e | e
                      · exact e
                      · have := BB.out n h2 e
                        rw [this.2] at h2
                        exact absurd h2 HD.out, UR.out, XR.out, NR.out⟩
                  case measure => simp [intOf]; omega
              · have hw1 : (wq == s) = false := by rw [beq_eq_false_iff_ne]; exact hw
                have hw2 : ¬ s = wq := fun e => hw e.symm
                have HW := Lib.hid hw
                go_wp2
                go_roundw
                case rel => exact ⟨q + 1, rfl, by omega, by omega, fun k n h1 h2 => by
                  rcases Int.lt_or_le k q with h | h
                  · exact HN.out k n h h2
                  · obtain rfl : k = q := by omega
                    rcases Classical.em (s = []) with e | e
                    · exact e
                    · exact absurd (BB.out n h2 e).1.symm HW.out, UR.out.alloc _, XR.out.up ((Up.refl _).alloc _), NR.out.up ((Up.refl _).alloc _)⟩
                case measure => simp [intOf]; omega
      · have e1 : (i : Int) < s.length := by omega
        have e2 : ¬ (i : Int) < 9 := by omega
        have QF := Lib.hid (fun k n (h1 : dskS k n = s) (h2 : s ≠ []) => word_of h1 h2 SP.out)
        have SN := Lib.hid (show s = [] → s = [] from fun h => by
          rcases SP.out with ⟨i, _, _, e, _⟩ | ⟨_, e, _⟩
          · rw [h] at e
            have := congrArg List.length e
            simp at this
          · exact e.trans h)
        go_wp2_with fail
        refine (names_any _).mono ?_; rintro x wN ⟨gN, rfl, nb, u⟩
        replace U := Lib.hid (U.out.trans u)
        replace X := Lib.hid (X.out.up u)
        have NB := Lib.hid nb
        clear u nb; go_wp2
        go_loopw [8] (fun kv wr => ∃ q : Nat, kv = .int .i64 q ∧ 1 ≤ q ∧ q ≤ 6 ∧ (∀ k n : Int, k < q → dskS k n = s → s = []) ∧ Up w wr ∧ Blq wr w.heap.size 25 #[.int .i64 0, .int .i64 0] ∧ Blq wr gN 9 #[.string ⟨([] : List UInt8).toArray⟩, .string ⟨([100, 111] : List UInt8).toArray⟩, .string ⟨([104, 101, 97, 114] : List UInt8).toArray⟩, .string ⟨([98, 101, 103, 105, 110] : List UInt8).toArray⟩, .string ⟨([118, 105, 115, 105, 116] : List UInt8).toArray⟩, .string ⟨([102, 114, 101, 101] : List UInt8).toArray⟩]) (fun kv _ => 6 - (intOf kv).toNat)
        case atStart => exact ⟨1, rfl, by omega, by omega, fun k n h1 h2 => by
          rcases Classical.em (s = []) with e | e
          · exact e
          · have := kind_in h2 e
            omega, U.out, X.out, NB.out⟩
        case round =>
          obtain ⟨q, rfl, q1, q6, hno, ur, xr, nr⟩ := hrel
          have XR := Lib.hid xr
          have UR := Lib.hid ur
          have HN := Lib.hid hno
          have NR := Lib.hid nr
          have sz := xr.lt
          have gl := nr.lt
          clear hno ur xr nr
          by_cases hq : q = 6
          · subst hq
            obtain ⟨k0, k1⟩ := laid2 XR.out rfl (.int .i64 0) (.int .i64 0)
            have x0 := XR.out.cell (j := 0) rfl
            have x1 := XR.out.cell (j := 1) rfl
            have ff := XR.out.unfrozen
            have UE := Lib.hid ((UR.out.setCell (p := ⟨w.heap.size, 0, none⟩) (Nat.le_refl _) (.int .i64 0)).setCell (p := ⟨w.heap.size, 1, none⟩) (Nat.le_refl _) (.int .i64 0))
            have RS := Lib.hid (show ResA s 0 0 false from .inr ⟨rfl, rfl, rfl, fun k n h => by
              rcases Classical.em (s = []) with e | e
              · exact e
              · exact HN.out k n (by have := kind_in h e; omega) h⟩)
            go_wp2
            exact bodyPost_ret (v := .tuple #[.agg #[.int .i64 0, .int .i64 0], .bool false]) (by simp [results, Tryd.results11, go_sem, k0, k1]) rfl ⟨⟨0, 0, false, rfl, RS.out⟩, UE.out⟩
          · have q5 : (q : Int) < 6 := by omega
            have i1 : IntKind.i64.wrap ((q : Int) + 1) = (q : Int) + 1 := IntWalk.i64_in _ (by omega)
            have hN : (#[.string ⟨([] : List UInt8).toArray⟩, .string ⟨([100, 111] : List UInt8).toArray⟩, .string ⟨([104, 101, 97, 114] : List UInt8).toArray⟩, .string ⟨([98, 101, 103, 105, 110] : List UInt8).toArray⟩, .string ⟨([118, 105, 115, 105, 116] : List UInt8).toArray⟩, .string ⟨([102, 114, 101, 101] : List UInt8).toArray⟩] : Array Value)[q]? = some (.string ⟨(wordS q).toArray⟩) := by
              have : q = 1 ∨ q = 2 ∨ q = 3 ∨ q = 4 ∨ q = 5 := by omega
              rcases this with rfl | rfl | rfl | rfl | rfl <;> rfl
            have WN := Lib.hid (show wordS q ≠ [] by
              have : q = 1 ∨ q = 2 ∨ q = 3 ∨ q = 4 ∨ q = 5 := by omega
              rcases this with rfl | rfl | rfl | rfl | rfl <;> simp [wordS])
            have nm := NR.out.cell hN
            have QQ := Lib.hid (fun n (h1 : dskS q n = s) (h2 : s ≠ []) => QF.out q n h1 h2)
            have CSq := Lib.hid (fun n W => specDsk_any q n W)
            obtain ⟨wq, hwq⟩ : ∃ l, l = wordS q := ⟨_, rfl⟩; rw [← hwq] at nm QQ WN; clear hwq hN
            · have hr : ([] : List UInt8) = [] := rfl
              have BB := Lib.hid (fun n (h1 : dskS q n = s) (h2 : s ≠ []) => (show s = wq ∧ n = 0 from by
                obtain ⟨a, b⟩ := QQ.out n h1 h2; refine ⟨a, ?_⟩
                rcases b with ⟨_, b⟩ | ⟨u, hu, _, b⟩
                · exact b
                · exfalso
                  have t := List.all_eq_true.1 all2 u (List.mem_range.2 hu)
                  simp only [Bool.and_eq_true, decide_eq_true_eq] at t
                  exact t.2 (b.symm.trans hr)))
              clear QQ hr
              by_cases hw : wq = s
              · have hw1 : (wq == s) = true := by rw [hw]; exact BEq.rfl
                go_wp2_with fail
                refine (CSq.out _ _).mono ?_; rintro x w3 ⟨rfl, u⟩
                replace UR := Lib.hid ((UR.out.alloc _).trans u)
                replace XR := Lib.hid ((XR.out.up ((Up.refl _).alloc _)).up u)
                replace NR := Lib.hid ((NR.out.up ((Up.refl _).alloc _)).up u)
                have Y := Lib.hid ((Blq.new wr #[.int .i64 (q : Int), .int .i64 0] 25).up u)
                have y0 := Y.out.cell (j := 0) rfl
                have y1 := Y.out.cell (j := 1) rfl
                clear u
                by_cases hd : dskS q 0 = s
                · obtain ⟨k0, k1⟩ := laid2 XR.out rfl (.int .i64 q) (.int .i64 0)
                  have x0 := XR.out.cell (j := 0) rfl
                  have x1 := XR.out.cell (j := 1) rfl
                  have ff := XR.out.unfrozen
                  have UE := Lib.hid ((UR.out.setCell (p := ⟨w.heap.size, 0, none⟩) (Nat.le_refl _) (.int .i64 q)).setCell (p := ⟨w.heap.size, 1, none⟩) (Nat.le_refl _) (.int .i64 0))
                  have RS := Lib.hid (show ResA s q 0 true from .inl ⟨rfl, hd, fun h => WN.out (hw.trans (SN.out h))⟩)
                  have hd1 : (dskS q 0 == s) = true := by rw [hd]; exact BEq.rfl
                  generalize dskS q 0 = l at hd hd1 ⊢
                  go_wp2
                  exact bodyPost_ret (v := .tuple #[.agg #[.int .i64 q, .int .i64 0], .bool true]) (by simp [results, Tryd.results11, go_sem, k0, k1]) rfl ⟨⟨q, 0, true, rfl, RS.out⟩, UE.out⟩
                · have hd1 : (dskS q 0 == s) = false := by rw [beq_eq_false_iff_ne]; exact hd
                  have hd2 : ¬ s = dskS q 0 := fun e => hd e.symm
                  have HD := Lib.hid hd
                  generalize dskS q 0 = l at hd hd1 hd2 ⊢
                  go_wp2
                  go_roundw
                  case rel => exact ⟨q + 1, rfl, by omega, by omega, fun k n h1 h2 => by
                    rcases Int.lt_or_le k q with h | h
                    · exact HN.out k n h h2
                    · obtain rfl : k = q := by omega
                      rcases Classical.em (s = []) with e | e
                      · exact e
                      · have := BB.out n h2 e
                        rw [this.2] at h2
                        exact absurd h2 HD.out, UR.out, XR.out, NR.out⟩
                  case measure => simp [intOf]; omega
              · have hw1 : (wq == s) = false := by rw [beq_eq_false_iff_ne]; exact hw
                have hw2 : ¬ s = wq := fun e => hw e.symm
                have HW := Lib.hid hw
                go_wp2
                go_roundw
                case rel => exact ⟨q + 1, rfl, by omega, by omega, fun k n h1 h2 => by
                  rcases Int.lt_or_le k q with h | h
                  · exact HN.out k n h h2
                  · obtain rfl : k = q := by omega
                    rcases Classical.em (s = []) with e | e
                    · exact e
                    · exact absurd (BB.out n h2 e).1.symm HW.out, UR.out.alloc _, XR.out.up ((Up.refl _).alloc _), NR.out.up ((Up.refl _).alloc _)⟩
                case measure => simp [intOf]; omega
    · have lt : i < s.length := by omega
      have lt2 : (i : Int) < s.length := by omega
      have lt9 : (i : Int) < 9 := by omega
      obtain ⟨c, hc⟩ : ∃ c, s[i]? = some c := ⟨_, List.getElem?_eq_getElem lt⟩
      have h1 : s[i]'lt = c := by rw [List.getElem?_eq_getElem lt] at hc; exact Option.some.inj hc
      have hg : (⟨s.toArray⟩ : ByteArray)[i]'(by omega) = c := by
        rw [← h1]
        rfl
      have i1 : IntKind.i64.wrap ((i : Int) + 1) = (i : Int) + 1 := IntWalk.i64_in _ (by omega)
      by_cases c32 : (c.toNat : Int) = 32
      · have SP0 : SpW s (s.take i) (s.drop (i + 1)) := .inl ⟨i, by omega, by rw [List.length_take]; omega, by
          have := List.drop_eq_getElem_cons lt
          conv => lhs; rw [← List.take_append_drop i s, this, h1]
          rw [show c = 32 from UInt8.toNat_inj.1 (by rw [show (32 : UInt8).toNat = 32 from rfl]; omega)], fun d hd => by
          obtain ⟨j, hj⟩ := List.mem_iff_getElem?.1 hd; rw [List.getElem?_take] at hj
          split at hj
          · rename_i hji
            exact hno j d hji hj
          · cases hj⟩
        have RL0 : (s.drop (i + 1)).length ≤ 2000000 := by rw [List.length_drop]; omega
        have ex1 : (⟨s.toArray⟩ : ByteArray).extract 0 i = ⟨(s.take i).toArray⟩ := by rw [ByteArray.extract_mk, List.drop_zero, Nat.sub_zero]
        have ex2 : (⟨s.toArray⟩ : ByteArray).extract (i + 1) s.length = ⟨(s.drop (i + 1)).toArray⟩ := by rw [ByteArray.extract_mk, List.take_of_length_le (by rw [List.length_drop]; omega)]
        generalize s.take i = wd at SP0 ex1
        generalize s.drop (i + 1) = rs at SP0 RL0 ex2
        have SP := Lib.hid SP0
        have RL := Lib.hid RL0
        clear SP0 RL0 hno hc
        have QF := Lib.hid (fun k n (h1 : dskS k n = s) (h2 : s ≠ []) => word_of h1 h2 SP.out)
        have SN := Lib.hid (show s = [] → wd = [] from fun h => by
          rcases SP.out with ⟨i, _, _, e, _⟩ | ⟨_, e, _⟩
          · rw [h] at e
            have := congrArg List.length e
            simp at this
          · exact e.trans h)
        go_wp2_with fail
        refine (names_any _).mono ?_; rintro x wN ⟨gN, rfl, nb, u⟩
        replace U := Lib.hid (U.out.trans u)
        replace X := Lib.hid (X.out.up u)
        have NB := Lib.hid nb
        clear u nb; go_wp2
        go_loopw [8] (fun kv wr => ∃ q : Nat, kv = .int .i64 q ∧ 1 ≤ q ∧ q ≤ 6 ∧ (∀ k n : Int, k < q → dskS k n = s → s = []) ∧ Up w wr ∧ Blq wr w.heap.size 25 #[.int .i64 0, .int .i64 0] ∧ Blq wr gN 9 #[.string ⟨([] : List UInt8).toArray⟩, .string ⟨([100, 111] : List UInt8).toArray⟩, .string ⟨([104, 101, 97, 114] : List UInt8).toArray⟩, .string ⟨([98, 101, 103, 105, 110] : List UInt8).toArray⟩, .string ⟨([118, 105, 115, 105, 116] : List UInt8).toArray⟩, .string ⟨([102, 114, 101, 101] : List UInt8).toArray⟩]) (fun kv _ => 6 - (intOf kv).toNat)
        case atStart => exact ⟨1, rfl, by omega, by omega, fun k n h1 h2 => by
          rcases Classical.em (s = []) with e | e
          · exact e
          · have := kind_in h2 e
            omega, U.out, X.out, NB.out⟩
        case round =>
          obtain ⟨q, rfl, q1, q6, hno, ur, xr, nr⟩ := hrel
          have XR := Lib.hid xr
          have UR := Lib.hid ur
          have HN := Lib.hid hno
          have NR := Lib.hid nr
          have sz := xr.lt
          have gl := nr.lt
          clear hno ur xr nr
          by_cases hq : q = 6
          · subst hq
            obtain ⟨k0, k1⟩ := laid2 XR.out rfl (.int .i64 0) (.int .i64 0)
            have x0 := XR.out.cell (j := 0) rfl
            have x1 := XR.out.cell (j := 1) rfl
            have ff := XR.out.unfrozen
            have UE := Lib.hid ((UR.out.setCell (p := ⟨w.heap.size, 0, none⟩) (Nat.le_refl _) (.int .i64 0)).setCell (p := ⟨w.heap.size, 1, none⟩) (Nat.le_refl _) (.int .i64 0))
            have RS := Lib.hid (show ResA s 0 0 false from .inr ⟨rfl, rfl, rfl, fun k n h => by
              rcases Classical.em (s = []) with e | e
              · exact e
              · exact HN.out k n (by have := kind_in h e; omega) h⟩)
            go_wp2
            exact bodyPost_ret (v := .tuple #[.agg #[.int .i64 0, .int .i64 0], .bool false]) (by simp [results, Tryd.results11, go_sem, k0, k1]) rfl ⟨⟨0, 0, false, rfl, RS.out⟩, UE.out⟩
          · have q5 : (q : Int) < 6 := by omega
            have i1 : IntKind.i64.wrap ((q : Int) + 1) = (q : Int) + 1 := IntWalk.i64_in _ (by omega)
            have hN : (#[.string ⟨([] : List UInt8).toArray⟩, .string ⟨([100, 111] : List UInt8).toArray⟩, .string ⟨([104, 101, 97, 114] : List UInt8).toArray⟩, .string ⟨([98, 101, 103, 105, 110] : List UInt8).toArray⟩, .string ⟨([118, 105, 115, 105, 116] : List UInt8).toArray⟩, .string ⟨([102, 114, 101, 101] : List UInt8).toArray⟩] : Array Value)[q]? = some (.string ⟨(wordS q).toArray⟩) := by
              have : q = 1 ∨ q = 2 ∨ q = 3 ∨ q = 4 ∨ q = 5 := by omega
              rcases this with rfl | rfl | rfl | rfl | rfl <;> rfl
            have WN := Lib.hid (show wordS q ≠ [] by
              have : q = 1 ∨ q = 2 ∨ q = 3 ∨ q = 4 ∨ q = 5 := by omega
              rcases this with rfl | rfl | rfl | rfl | rfl <;> simp [wordS])
            have nm := NR.out.cell hN
            have QQ := Lib.hid (fun n (h1 : dskS q n = s) (h2 : s ≠ []) => QF.out q n h1 h2)
            have CSq := Lib.hid (fun n W => specDsk_any q n W)
            obtain ⟨wq, hwq⟩ : ∃ l, l = wordS q := ⟨_, rfl⟩; rw [← hwq] at nm QQ WN; clear hwq hN
            by_cases hr : rs = []
            · have re : rs.isEmpty = true := by rw [hr]; rfl
              have BB := Lib.hid (fun n (h1 : dskS q n = s) (h2 : s ≠ []) => (show wd = wq ∧ n = 0 from by
                obtain ⟨a, b⟩ := QQ.out n h1 h2; refine ⟨a, ?_⟩
                rcases b with ⟨_, b⟩ | ⟨u, hu, _, b⟩
                · exact b
                · exfalso
                  have t := List.all_eq_true.1 all2 u (List.mem_range.2 hu)
                  simp only [Bool.and_eq_true, decide_eq_true_eq] at t
                  exact t.2 (b.symm.trans hr)))
              clear QQ hr
              by_cases hw : wq = wd
              · have hw1 : (wq == wd) = true := by rw [hw]; exact BEq.rfl
                go_wp2_with fail
                refine (CSq.out _ _).mono ?_; rintro x w3 ⟨rfl, u⟩
                replace UR := Lib.hid ((UR.out.alloc _).trans u)
                replace XR := Lib.hid ((XR.out.up ((Up.refl _).alloc _)).up u)
                replace NR := Lib.hid ((NR.out.up ((Up.refl _).alloc _)).up u)
                have Y := Lib.hid ((Blq.new wr #[.int .i64 (q : Int), .int .i64 0] 25).up u)
                have y0 := Y.out.cell (j := 0) rfl
                have y1 := Y.out.cell (j := 1) rfl
                clear u
                by_cases hd : dskS q 0 = s
                · obtain ⟨k0, k1⟩ := laid2 XR.out rfl (.int .i64 q) (.int .i64 0)
                  have x0 := XR.out.cell (j := 0) rfl
                  have x1 := XR.out.cell (j := 1) rfl
                  have ff := XR.out.unfrozen
                  have UE := Lib.hid ((UR.out.setCell (p := ⟨w.heap.size, 0, none⟩) (Nat.le_refl _) (.int .i64 q)).setCell (p := ⟨w.heap.size, 1, none⟩) (Nat.le_refl _) (.int .i64 0))
                  have RS := Lib.hid (show ResA s q 0 true from .inl ⟨rfl, hd, fun h => WN.out (hw.trans (SN.out h))⟩)
                  have hd1 : (dskS q 0 == s) = true := by rw [hd]; exact BEq.rfl
                  generalize dskS q 0 = l at hd hd1 ⊢
                  go_wp2
                  exact bodyPost_ret (v := .tuple #[.agg #[.int .i64 q, .int .i64 0], .bool true]) (by simp [results, Tryd.results11, go_sem, k0, k1]) rfl ⟨⟨q, 0, true, rfl, RS.out⟩, UE.out⟩
                · have hd1 : (dskS q 0 == s) = false := by rw [beq_eq_false_iff_ne]; exact hd
                  have hd2 : ¬ s = dskS q 0 := fun e => hd e.symm
                  have HD := Lib.hid hd
                  generalize dskS q 0 = l at hd hd1 hd2 ⊢
                  go_wp2
                  go_roundw
                  case rel => exact ⟨q + 1, rfl, by omega, by omega, fun k n h1 h2 => by
                    rcases Int.lt_or_le k q with h | h
                    · exact HN.out k n h h2
                    · obtain rfl : k = q := by omega
                      rcases Classical.em (s = []) with e | e
                      · exact e
                      · have := BB.out n h2 e
                        rw [this.2] at h2
                        exact absurd h2 HD.out, UR.out, XR.out, NR.out⟩
                  case measure => simp [intOf]; omega
              · have hw1 : (wq == wd) = false := by rw [beq_eq_false_iff_ne]; exact hw
                have hw2 : ¬ wd = wq := fun e => hw e.symm
                have HW := Lib.hid hw
                go_wp2
                go_roundw
                case rel => exact ⟨q + 1, rfl, by omega, by omega, fun k n h1 h2 => by
                  rcases Int.lt_or_le k q with h | h
                  · exact HN.out k n h h2
                  · obtain rfl : k = q := by omega
                    rcases Classical.em (s = []) with e | e
                    · exact e
                    · exact absurd (BB.out n h2 e).1.symm HW.out, UR.out.alloc _, XR.out.up ((Up.refl _).alloc _), NR.out.up ((Up.refl _).alloc _)⟩
                case measure => simp [intOf]; omega
            · have re : rs.isEmpty = false := by cases rs with | nil => exact absurd rfl hr | cons c r => rfl
              go_wp2_with fail
              refine (num_any rs RL.out _).mono ?_; rintro x w3 ⟨⟨z, rfl, hz⟩, u⟩
              have BB := Lib.hid (fun n (h1 : dskS q n = s) (h2 : s ≠ []) => (show wd = wq ∧ n = z from by
                obtain ⟨a, b⟩ := QQ.out n h1 h2; refine ⟨a, ?_⟩
                rcases b with ⟨b, _⟩ | ⟨u, hu, e, b⟩
                · exact absurd b hr
                · rw [b] at hz
                  rw [num_of hu hz, e]))
              have gN1 : gN ≠ wr.heap.size := by omega
              have gX1 : w.heap.size ≠ wr.heap.size := by omega
              have sz3 : wr.heap.size < w3.heap.size := by have := u.size; simp at this; omega
              replace UR := Lib.hid ((UR.out.alloc _).trans u)
              have UR4 := Lib.hid (UR.out.setCell (p := ⟨wr.heap.size, 1, none⟩) (Nat.le_of_lt sz) (.int .i64 z))
              replace XR := Lib.hid ((XR.out.up ((Up.refl _).alloc _)).up u)
              have XR4 := Lib.hid (XR.out.mv ((Mv.refl wr.heap.size w3).setCell (o := 1) (.int .i64 z)) gX1)
              replace NR := Lib.hid ((NR.out.up ((Up.refl _).alloc _)).up u)
              have NR4 := Lib.hid (NR.out.mv ((Mv.refl wr.heap.size w3).setCell (o := 1) (.int .i64 z)) gN1)
              have Y := Lib.hid ((Blq.new wr #[.int .i64 (q : Int), .int .i64 0] 25).up u)
              have y0 := Y.out.cell (j := 0) rfl
              have y1 := Y.out.cell (j := 1) rfl
              have yf := Y.out.unfrozen
              have z0 : (w3.setCell ⟨wr.heap.size, 1, none⟩ (.int .i64 z)).cell? ⟨wr.heap.size, 0, none⟩ = some (.int .i64 q) := (World.cell?_setCell_other _ _ _ _ (addr_ne (by omega))).trans y0
              have z1 : (w3.setCell ⟨wr.heap.size, 1, none⟩ (.int .i64 z)).cell? ⟨wr.heap.size, 1, none⟩ = some (.int .i64 z) := World.cell?_setCell_same _ _ _ y1
              have nm4 : (w3.setCell ⟨wr.heap.size, 1, none⟩ (.int .i64 z)).cell? ⟨gN, q, none⟩ = some (.string ⟨wq.toArray⟩) := by
                refine (World.cell?_setCell_other _ _ _ _ (addr_ne (.inl (Ne.symm gN1)))).trans ?_; rw [(u.cells gN q (by simp; omega))]
                exact ((Up.refl wr).alloc _).cells gN q gl |>.trans nm
              clear u QQ hz
              by_cases hw : wq = wd
              · have hw1 : (wq == wd) = true := by rw [hw]; exact BEq.rfl
                go_wp2_with fail
                refine (CSq.out _ _).mono ?_; rintro x w5 ⟨rfl, u⟩
                generalize w3.setCell ⟨wr.heap.size, 1, none⟩ (.int .i64 z) = w4 at UR4 XR4 NR4 z0 z1 nm4 u
                have l4 : wr.heap.size < w4.heap.size := block_lt' z0
                replace z0 := (u.cells _ _ l4).trans z0
                replace z1 := (u.cells _ _ l4).trans z1
                replace UR := Lib.hid (UR4.out.trans u)
                replace XR := Lib.hid (XR4.out.up u)
                replace NR := Lib.hid (NR4.out.up u)
                clear u UR4 XR4 NR4 nm4 nm Y y0 y1 yf
                by_cases hd : dskS q z = s
                · obtain ⟨k0, k1⟩ := laid2 XR.out rfl (.int .i64 q) (.int .i64 z)
                  have x0 := XR.out.cell (j := 0) rfl
                  have x1 := XR.out.cell (j := 1) rfl
                  have ff := XR.out.unfrozen
                  have UE := Lib.hid ((UR.out.setCell (p := ⟨w.heap.size, 0, none⟩) (Nat.le_refl _) (.int .i64 q)).setCell (p := ⟨w.heap.size, 1, none⟩) (Nat.le_refl _) (.int .i64 z))
                  have RS := Lib.hid (show ResA s q z true from .inl ⟨rfl, hd, fun h => WN.out (hw.trans (SN.out h))⟩)
                  have hd1 : (dskS q z == s) = true := by rw [hd]; exact BEq.rfl
                  generalize dskS q z = l at hd hd1 ⊢
                  go_wp2
                  exact bodyPost_ret (v := .tuple #[.agg #[.int .i64 q, .int .i64 z], .bool true]) (by simp [results, Tryd.results11, go_sem, k0, k1]) rfl ⟨⟨q, z, true, rfl, RS.out⟩, UE.out⟩
                · have hd1 : (dskS q z == s) = false := by rw [beq_eq_false_iff_ne]; exact hd
                  have hd2 : ¬ s = dskS q z := fun e => hd e.symm
                  have HD := Lib.hid hd
                  generalize dskS q z = l at hd hd1 hd2 ⊢
                  go_wp2
                  go_roundw
                  case rel => exact ⟨q + 1, rfl, by omega, by omega, fun k n h1 h2 => by
                    rcases Int.lt_or_le k q with h | h
                    · exact HN.out k n h h2
                    · obtain rfl : k = q := by omega
                      rcases Classical.em (s = []) with e | e
                      · exact e
                      · have := BB.out n h2 e
                        rw [this.2] at h2
                        exact absurd h2 HD.out, UR.out, XR.out, NR.out⟩
                  case measure => simp [intOf]; omega
              · have hw1 : (wq == wd) = false := by rw [beq_eq_false_iff_ne]; exact hw
                have hw2 : ¬ wd = wq := fun e => hw e.symm
                have HW := Lib.hid hw
                go_wp2
                go_roundw
                case rel => exact ⟨q + 1, rfl, by omega, by omega, fun k n h1 h2 => by
                  rcases Int.lt_or_le k q with h | h
                  · exact HN.out k n h h2
                  · obtain rfl : k = q := by omega
                    rcases Classical.em (s = []) with e | e
                    · exact e
                    · exact absurd (BB.out n h2 e).1.symm HW.out, UR4.out, XR4.out, NR4.out⟩
                case measure => simp [intOf]; omega
      · go_wp2
        go_roundw
        case rel => exact ⟨rfl, rfl, i + 1, rfl, by omega, by omega, fun j d hj hd => by
          rcases Nat.lt_or_ge j i with h | h
          · exact hno j d h hd
          · obtain rfl : j = i := by omega
            rw [hc] at hd; obtain rfl := Option.some.inj hd
            omega, trivial⟩
        case measure => simp [intOf]; omega
end Go.Proofs.YtlkmhmiamdbhcaaDoor

namespace Go.Proofs.YtlkmhmiamdbhcaaDoor
set_option maxRecDepth 100000
open Go.RowKit
theorem Bys.grow {w w' : World} {A : Option Addr} {n : Nat} (h : Bys w A n w.heap.size) (u : Up w w') : Bys w' A n w'.heap.size := fun h0 => by
  obtain ⟨b, off, hA, hb, hc⟩ := h.keep (fun b o hb => u.cells b o hb) h0
  exact ⟨b, off, hA, Nat.lt_of_lt_of_le hb u.size, hc⟩
end Go.Proofs.YtlkmhmiamdbhcaaDoor

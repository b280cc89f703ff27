/-
  What l4Items returns, in one sentence: whether all items are of the model, for the component, and in order; for every list that lies in memory.
-/
import Derived.Test.YtlkmhmiamdbhcabGreatDLElst03
import Derived.Test.YtlkmhmiamdbhcabGreatDLElst13
namespace Go.Proofs.YtlkmhmiamdbhcabGreat
set_option maxRecDepth 100000
open Go.RowKit
def rowB (many til comp : Int) (p : Option Rec) (r : Rec) : Bool := itemForB many til comp r && behT p r
def rowsB (many til comp : Int) : Option Rec → List Rec → Bool
  | _, [] => true
  | p, r :: rs => rowB many til comp p r && rowsB many til comp (some r) rs
theorem rowsB_eq (many til comp : Int) : ∀ (xs : List Rec) (p : Option Rec), rowsB many til comp p xs = (riseQ p xs && xs.all (itemForB many til comp))
  | [], p => by cases p <;> simp [rowsB, riseQ, riseT]
  | r :: rs, p => by
    rw [rowsB, rowsB_eq many til comp rs (some r), riseQ_cons, List.all_cons, rowB]
    generalize riseQ (some r) rs = a
    generalize rs.all (itemForB many til comp) = b
    generalize itemForB many til comp r = x
    generalize behT p r = y
    cases a <;> cases b <;> cases x <;> cases y <;> rfl
theorem rowsB_drop (many til comp : Int) (xs : List Rec) (k : Nat) (p : Option Rec) (h : k < xs.length) : rowsB many til comp p (xs.drop k) = (rowB many til comp p (xs.getD k default) && rowsB many til comp (some (xs.getD k default)) (xs.drop (k + 1))) := by
  rw [List.drop_eq_getElem_cons h, rowsB]; simp [h]
theorem rowsB_end (many til comp : Int) (xs : List Rec) (k : Nat) (p : Option Rec) (h : xs.length ≤ k) : rowsB many til comp p (xs.drop k) = true := by
  rw [List.drop_eq_nil_of_le h, rowsB]
def prevR (xs : List Rec) (k : Nat) : Option Rec := if k = 0 then none else some (xs.getD (k - 1) default)
theorem prevR_succ (xs : List Rec) (k : Nat) : prevR xs (k + 1) = some (xs.getD k default) := by simp [prevR]
set_option maxHeartbeats 8000000 in
theorem specItems_any (A : Option Addr) (n c : Nat) (B : Option Addr) (k d : Nat) (til comp : Int) (R : Option Addr) (l e : Nat) (xs : List Rec) (w : World) (hl : l ≤ 1000000000) (hE : Recs w R l xs) :
    Calls Tryz.prog 60 #[.agg #[.slice A n c, .slice B k d, .int .i64 til], .int .i64 comp, .slice R l e] w fun x w' => x = .returned (.bool (itemsB n til comp xs)) ∧ Up w w' := by
  have HE := Lib.hid hE
  have LE := Lib.hid hE.1
  have CI := Lib.hid (fun r W => specItem_any A n c B k d til r W)
  have CL := Lib.hid (fun a b W => specItmLess_any (Rec.itm a) (Rec.itm b) W)
  have hf := Lib.hid (show itemsB n til comp xs = rowsB n til comp none xs from (rowsB_eq n til comp xs none).symm)
  have SD := Lib.hid (fun j p h => rowsB_drop n til comp xs j p h)
  have SE := Lib.hid (fun j p h => rowsB_end n til comp xs j p h)
  generalize itemsB n til comp xs = res at hf ⊢
  have H0 := Lib.hid (show rowsB n til comp (prevR xs 0) (xs.drop 0) = res from hf.out.symm)
  have X := Lib.hid (Blk.new w #[.slice A n c, .slice B k d, .int .i64 til] 39)
  have U0 := Lib.hid ((Up.refl w).alloc (.cells #[.slice A n c, .slice B k d, .int .i64 til] 39))
  clear hE hf
  go_enter Tryz.func60, Tryz.ntmps60
  go_wp2
  generalize w.alloc (.cells #[.slice A n c, .slice B k d, .int .i64 til] 39) = W at *
  generalize hb0 : w.heap.size = b0_ at *
  clear hb0
  go_loopw [7] (fun i wr => (∃ j : Nat, j ≤ l ∧ i = .int .i64 j ∧ Hid (rowsB n til comp (prevR xs j) (xs.drop j) = res)) ∧ Up W wr) (fun i _ => l - (intOf i).toNat)
  case atStart => exact ⟨⟨0, by omega, rfl, H0⟩, Up.refl _⟩
  case round =>
    obtain ⟨⟨j, hj, rfl, HR⟩, ur⟩ := hrel
    have X := Lib.hid (X.out.up ur)
    have UR := Lib.hid (U0.out.trans ur)
    by_cases hlt : j < l
    · obtain ⟨b, off, hA, hb, hc⟩ := (HE.out.up UR.out).2 (by omega)
      subst hA
      have HC := Lib.hid (fun i hi => (fun W (u : Up wr W) => (hc i hi).up u hb))
      have hlb := Lib.hid hb
      have S := SD.out j (prevR xs j) (by rw [LE.out]; exact hlt)
      rw [HR.out] at S
      have SN := prevR_succ xs j
      have PV := Lib.hid (show ∀ j0, j = j0 + 1 → prevR xs j = some (xs.getD j0 default) from fun j0 h => by rw [h, prevR_succ])
      have PZ := Lib.hid (show j = 0 → prevR xs j = none from fun h => by rw [h]; rfl)
      have a0 := hc j hlt
      clear hc hb
      generalize hp : xs.getD j default = p at S SN a0
      have HP := Lib.hid hp
      clear hp; rw [← SN] at S
      generalize prevR xs j = pv at S PV PZ
      replace S := Lib.hid S
      clear SN HR
      have ci := CI.out p
      have hro := Lib.hid (show rowB n til comp pv p = ((itemB n til p && decide (p.ev.to = comp)) && behT pv p) from rfl)
      generalize itemB n til p = b1 at ci hro
      have cl := fun q => CL.out q p
      have beh := Lib.hid (fun q => show behT (some q) p = ltR q p from rfl)
      generalize rowB n til comp pv p = ro at S hro
      have CLT := Lib.hid (show ∀ q W, Calls Tryz.prog 88 #[q.v, p.v] W fun x w' => x = .returned (.bool (ltR q p)) ∧ Up W w' from cl)
      clear cl
      generalize hbh : behT pv p = bh at hro
      have HBH := Lib.hid hbh
      clear hbh; obtain ⟨⟨p0, p1, p2, p3, p4, p5⟩, p6⟩ := p; unfold Rec.v at ci; unfold RecAt at a0; dsimp only at ci hro a0
      have CII := Lib.hid ci
      clear ci; obtain ⟨z0, z1, z2, z3, z4, z5, z6⟩ := a0
      have i4 : (j : Int) < l := by omega
      have i5 : j < l := hlt
      have i6 : IntKind.i64.wrap ((j : Int) + 1) = (j : Int) + 1 := IntWalk.i64_in _ (by omega)
      have UW := Lib.hid ur
      clear ur
      cases b1
      · have HF := Lib.hid (show res = false by rw [S.out, hro.out]; simp)
        go_wp2_with fail
        refine region_mixH (fun w' => Up wr w') [(0, true), (1, true), (2, true), (3, true), (4, true), (5, false), (6, true), (7, true), (8, true), (9, true), (10, true), (11, true), (12, true), (13, true), (14, true), (15, true), (16, true), (17, true), (18, true), (19, true), (20, true), (21, true), (22, true), (23, true), (24, true), (25, true), (26, true), (27, true), (28, true), (29, true), (30, true), (31, true), (32, true), (33, true)] (by kernel_rfl) (by kernel_rfl) (Up.refl _).drew ?_; refine mixH_take rfl (by rfl) ?_; apply Exists.intro; refine ⟨fun w1 hS1 => ?_, ?_⟩
        · have m0 := (X.out.up hS1).cell (j := 0) rfl
          have m1 := (X.out.up hS1).cell (j := 1) rfl
          have m2 := (X.out.up hS1).cell (j := 2) rfl
          have lx := (X.out.up hS1).lt
          clear hS1; go_simp
          try rfl
        go_simp
        iterate 3
          refine mixH_take rfl (by rfl) ?_; apply Exists.intro; refine ⟨fun w1 hS1 => ?_, ?_⟩
          · clear hS1
            go_simp
            try rfl
          go_simp
        refine mixH_take rfl (by rfl) ?_; apply Exists.intro; refine ⟨fun w1 hS1 => ?_, ?_⟩
        · have a1 := HC.out (j) (by omega) _ hS1
          rw [HP.out] at a1; unfold RecAt at a1; dsimp only at a1; obtain ⟨c0, c1, c2, c3, c4, c5, c6⟩ := a1
          have lb := Nat.lt_of_lt_of_le hlb.out hS1.size
          clear hS1; go_simp
          try rfl
        go_simp; refine mixH_go rfl (by rfl) (fun K hK => ?_); go_simp; refine (CII.out _).mono ?_; rintro z wA ⟨rfl, uA⟩; refine hK _ _ ((Up.refl _).drew.trans uA) ?_; clear hK K; go_simp
        iterate 2
          refine mixH_take rfl (by rfl) ?_; apply Exists.intro; refine ⟨fun w1 hS1 => ?_, ?_⟩
          · clear hS1
            go_simp
            try rfl
          go_simp
        iterate 8
          refine mixH_skip rfl (by rfl) ?_; go_simp
        iterate 2
          refine mixH_take rfl (by rfl) ?_; apply Exists.intro; refine ⟨fun w1 hS1 => ?_, ?_⟩
          · clear hS1
            go_simp
            try rfl
          go_simp
        iterate 15
          refine mixH_skip rfl (by rfl) ?_; go_simp
        refine mixH_take rfl (by rfl) ?_; apply Exists.intro; refine ⟨fun w1 hS1 => ?_, ?_⟩
        · clear hS1
          go_simp
          try rfl
        go_simp; refine mixH_nil ?_; go_wp2; go_ret
        exact ⟨ret_bool HF.out.symm, UR.out.trans ((Up.refl _).drew.trans uA)⟩
      · by_cases hto : p1 = comp
        · subst hto
          by_cases hj0 : j = 0
          · have hb0 : bh = true := by rw [← HBH.out, PZ.out hj0]; rfl
            subst hb0; subst hj0
            go_wp2_with fail
            refine region_mixH (fun w' => Up wr w') [(0, true), (1, true), (2, true), (3, true), (4, true), (5, false), (6, true), (7, true), (8, true), (9, true), (10, true), (11, true), (12, true), (13, true), (14, true), (15, true), (16, true), (17, true), (18, true), (19, true), (20, true), (21, true), (22, true), (23, true), (24, true), (25, true), (26, true), (27, true), (28, true), (29, true), (30, true), (31, true), (32, true), (33, true)] (by kernel_rfl) (by kernel_rfl) (Up.refl _).drew ?_; refine mixH_take rfl (by rfl) ?_; apply Exists.intro; refine ⟨fun w1 hS1 => ?_, ?_⟩
            · have m0 := (X.out.up hS1).cell (j := 0) rfl
              have m1 := (X.out.up hS1).cell (j := 1) rfl
              have m2 := (X.out.up hS1).cell (j := 2) rfl
              have lx := (X.out.up hS1).lt
              clear hS1; go_simp
              try rfl
            go_simp
            iterate 3
              refine mixH_take rfl (by rfl) ?_; apply Exists.intro; refine ⟨fun w1 hS1 => ?_, ?_⟩
              · clear hS1
                go_simp
                try rfl
              go_simp
            refine mixH_take rfl (by rfl) ?_; apply Exists.intro; refine ⟨fun w1 hS1 => ?_, ?_⟩
            · have a1 := HC.out (0) (by omega) _ hS1
              rw [HP.out] at a1; unfold RecAt at a1; dsimp only at a1; simp only [Nat.zero_mul, Nat.add_zero] at a1; obtain ⟨c0, c1, c2, c3, c4, c5, c6⟩ := a1
              have lb := Nat.lt_of_lt_of_le hlb.out hS1.size
              clear hS1; go_simp
              try rfl
            go_simp; refine mixH_go rfl (by rfl) (fun K hK => ?_); go_simp; refine (CII.out _).mono ?_; rintro z wA ⟨rfl, uA⟩; refine hK _ _ ((Up.refl _).drew.trans uA) ?_; clear hK K; go_simp
            iterate 7
              refine mixH_take rfl (by rfl) ?_; apply Exists.intro; refine ⟨fun w1 hS1 => ?_, ?_⟩
              · clear hS1
                go_simp
                try rfl
              go_simp
            refine mixH_take rfl (by rfl) ?_; apply Exists.intro; refine ⟨fun w1 hS1 => ?_, ?_⟩
            · have a1 := HC.out (0) (by omega) _ hS1
              rw [HP.out] at a1; unfold RecAt at a1; dsimp only at a1; simp only [Nat.zero_mul, Nat.add_zero] at a1; obtain ⟨c0, c1, c2, c3, c4, c5, c6⟩ := a1
              have lb := Nat.lt_of_lt_of_le hlb.out hS1.size
              clear hS1; go_simp
              try rfl
            go_simp
            iterate 7
              refine mixH_take rfl (by rfl) ?_; apply Exists.intro; refine ⟨fun w1 hS1 => ?_, ?_⟩
              · clear hS1
                go_simp
                try rfl
              go_simp
            iterate 11
              refine mixH_skip rfl (by rfl) ?_; go_simp
            iterate 2
              refine mixH_take rfl (by rfl) ?_; apply Exists.intro; refine ⟨fun w1 hS1 => ?_, ?_⟩
              · clear hS1
                go_simp
                try rfl
              go_simp
            refine mixH_nil ?_
            have HN := Lib.hid (show rowsB n til p1 (prevR xs (0 + 1)) (xs.drop (0 + 1)) = res by rw [S.out, hro.out]; simp)
            go_wp2
            go_roundw
            case rel => exact ⟨⟨0 + 1, by omega, by go_num, HN⟩, UW.out.trans ((Up.refl _).drew.trans uA)⟩
            case measure => simp [intOf]; omega
          · obtain ⟨j0, rfl⟩ : ∃ j0, j = j0 + 1 := ⟨j - 1, by omega⟩
            have hbq := PV.out j0 rfl
            generalize hqq : xs.getD j0 default = q at hbq
            have HQ := Lib.hid hqq
            have hb2 : bh = ltR q ⟨⟨p0, p1, p2, p3, p4, p5⟩, p6⟩ := by rw [← HBH.out, hbq]; rfl
            have clq := CLT.out q
            rw [← hb2] at clq; obtain ⟨⟨q0, q1, q2, q3, q4, q5⟩, q6⟩ := q; unfold Rec.v at clq; dsimp only at clq
            have CLQ := Lib.hid clq
            clear clq hb2 hbq hqq
            have k1 : IntKind.i64.wrap ((j0 : Int) + 1 - 1) = (j0 : Int) := by rw [show (j0 : Int) + 1 - 1 = (j0 : Int) by omega]; exact IntWalk.i64_in _ (by omega)
            have k2 : (j0 : Int) + 1 - 1 = (j0 : Int) := by omega
            have k3 : IntKind.i64.wrap (j0 : Int) = (j0 : Int) := IntWalk.i64_in _ (by omega)
            have k4 : (0 : Int) < (j0 : Int) + 1 := by omega
            have k5 : (j0 : Int) < (l : Int) := by omega
            have k6 : j0 < l := by omega
            cases bh
            · have HF := Lib.hid (show res = false by rw [S.out, hro.out]; simp)
              go_wp2_with fail
              refine region_mixH (fun w' => Up wr w') [(0, true), (1, true), (2, true), (3, true), (4, true), (5, false), (6, true), (7, true), (8, true), (9, true), (10, true), (11, true), (12, true), (13, true), (14, true), (15, true), (16, true), (17, true), (18, true), (19, true), (20, true), (21, true), (22, true), (23, true), (24, true), (25, true), (26, true), (27, true), (28, true), (29, true), (30, false), (31, true), (32, true), (33, true)] (by kernel_rfl) (by kernel_rfl) (Up.refl _).drew ?_; refine mixH_take rfl (by rfl) ?_; apply Exists.intro; refine ⟨fun w1 hS1 => ?_, ?_⟩
              · have m0 := (X.out.up hS1).cell (j := 0) rfl
                have m1 := (X.out.up hS1).cell (j := 1) rfl
                have m2 := (X.out.up hS1).cell (j := 2) rfl
                have lx := (X.out.up hS1).lt
                clear hS1; go_simp
                try rfl
              go_simp
              iterate 3
                refine mixH_take rfl (by rfl) ?_; apply Exists.intro; refine ⟨fun w1 hS1 => ?_, ?_⟩
                · clear hS1
                  go_simp
                  try rfl
                go_simp
              refine mixH_take rfl (by rfl) ?_; apply Exists.intro; refine ⟨fun w1 hS1 => ?_, ?_⟩
              · have a1 := HC.out (j0 + 1) (by omega) _ hS1
                rw [HP.out] at a1; unfold RecAt at a1; dsimp only at a1; obtain ⟨c0, c1, c2, c3, c4, c5, c6⟩ := a1
                have lb := Nat.lt_of_lt_of_le hlb.out hS1.size
                clear hS1; go_simp
                try rfl
              go_simp; refine mixH_go rfl (by rfl) (fun K hK => ?_); go_simp; refine (CII.out _).mono ?_; rintro z wA ⟨rfl, uA⟩; refine hK _ _ ((Up.refl _).drew.trans uA) ?_; clear hK K; go_simp
              iterate 7
                refine mixH_take rfl (by rfl) ?_; apply Exists.intro; refine ⟨fun w1 hS1 => ?_, ?_⟩
                · clear hS1
                  go_simp
                  try rfl
                go_simp
              refine mixH_take rfl (by rfl) ?_; apply Exists.intro; refine ⟨fun w1 hS1 => ?_, ?_⟩
              · have a1 := HC.out (j0 + 1) (by omega) _ hS1
                rw [HP.out] at a1; unfold RecAt at a1; dsimp only at a1; obtain ⟨c0, c1, c2, c3, c4, c5, c6⟩ := a1
                have lb := Nat.lt_of_lt_of_le hlb.out hS1.size
                clear hS1; go_simp
                try rfl
              go_simp
              iterate 11
                refine mixH_take rfl (by rfl) ?_; apply Exists.intro; refine ⟨fun w1 hS1 => ?_, ?_⟩
                · clear hS1
                  go_simp
                  try rfl
                go_simp
              refine mixH_take rfl (by rfl) ?_; apply Exists.intro; refine ⟨fun w1 hS1 => ?_, ?_⟩
              · have a1 := HC.out j0 (by omega) _ hS1
                rw [HQ.out] at a1; unfold RecAt at a1; dsimp only at a1; obtain ⟨c0, c1, c2, c3, c4, c5, c6⟩ := a1
                have lb := Nat.lt_of_lt_of_le hlb.out hS1.size
                clear hS1; go_simp
                try rfl
              go_simp
              iterate 3
                refine mixH_take rfl (by rfl) ?_; apply Exists.intro; refine ⟨fun w1 hS1 => ?_, ?_⟩
                · clear hS1
                  go_simp
                  try rfl
                go_simp
              refine mixH_take rfl (by rfl) ?_; apply Exists.intro; refine ⟨fun w1 hS1 => ?_, ?_⟩
              · have a1 := HC.out (j0 + 1) (by omega) _ hS1
                rw [HP.out] at a1; unfold RecAt at a1; dsimp only at a1; obtain ⟨c0, c1, c2, c3, c4, c5, c6⟩ := a1
                have lb := Nat.lt_of_lt_of_le hlb.out hS1.size
                clear hS1; go_simp
                try rfl
              go_simp; refine mixH_go rfl (by rfl) (fun K hK => ?_); go_simp; refine (CLQ.out _).mono ?_; rintro z wB ⟨rfl, uB⟩; refine hK _ _ (((Up.refl _).drew.trans uA).trans uB) ?_; clear hK K; go_simp
              iterate 3
                refine mixH_take rfl (by rfl) ?_; apply Exists.intro; refine ⟨fun w1 hS1 => ?_, ?_⟩
                · clear hS1
                  go_simp
                  try rfl
                go_simp
              refine mixH_nil ?_; go_wp2; go_ret
              exact ⟨ret_bool HF.out.symm, UR.out.trans (((Up.refl _).drew.trans uA).trans uB)⟩
            · go_wp2_with fail
              refine region_mixH (fun w' => Up wr w') [(0, true), (1, true), (2, true), (3, true), (4, true), (5, false), (6, true), (7, true), (8, true), (9, true), (10, true), (11, true), (12, true), (13, true), (14, true), (15, true), (16, true), (17, true), (18, true), (19, true), (20, true), (21, true), (22, true), (23, true), (24, true), (25, true), (26, true), (27, true), (28, true), (29, true), (30, false), (31, true), (32, true), (33, true)] (by kernel_rfl) (by kernel_rfl) (Up.refl _).drew ?_; refine mixH_take rfl (by rfl) ?_; apply Exists.intro; refine ⟨fun w1 hS1 => ?_, ?_⟩
              · have m0 := (X.out.up hS1).cell (j := 0) rfl
                have m1 := (X.out.up hS1).cell (j := 1) rfl
                have m2 := (X.out.up hS1).cell (j := 2) rfl
                have lx := (X.out.up hS1).lt
                clear hS1; go_simp
                try rfl
              go_simp
              iterate 3
                refine mixH_take rfl (by rfl) ?_; apply Exists.intro; refine ⟨fun w1 hS1 => ?_, ?_⟩
                · clear hS1
                  go_simp
                  try rfl
                go_simp
              refine mixH_take rfl (by rfl) ?_; apply Exists.intro; refine ⟨fun w1 hS1 => ?_, ?_⟩
              · have a1 := HC.out (j0 + 1) (by omega) _ hS1
                rw [HP.out] at a1; unfold RecAt at a1; dsimp only at a1; obtain ⟨c0, c1, c2, c3, c4, c5, c6⟩ := a1
                have lb := Nat.lt_of_lt_of_le hlb.out hS1.size
                clear hS1; go_simp
                try rfl
              go_simp; refine mixH_go rfl (by rfl) (fun K hK => ?_); go_simp; refine (CII.out _).mono ?_; rintro z wA ⟨rfl, uA⟩; refine hK _ _ ((Up.refl _).drew.trans uA) ?_; clear hK K; go_simp
              iterate 7
                refine mixH_take rfl (by rfl) ?_; apply Exists.intro; refine ⟨fun w1 hS1 => ?_, ?_⟩
                · clear hS1
                  go_simp
                  try rfl
                go_simp
              refine mixH_take rfl (by rfl) ?_; apply Exists.intro; refine ⟨fun w1 hS1 => ?_, ?_⟩
              · have a1 := HC.out (j0 + 1) (by omega) _ hS1
                rw [HP.out] at a1; unfold RecAt at a1; dsimp only at a1; obtain ⟨c0, c1, c2, c3, c4, c5, c6⟩ := a1
                have lb := Nat.lt_of_lt_of_le hlb.out hS1.size
                clear hS1; go_simp
                try rfl
              go_simp
              iterate 11
                refine mixH_take rfl (by rfl) ?_; apply Exists.intro; refine ⟨fun w1 hS1 => ?_, ?_⟩
                · clear hS1
                  go_simp
                  try rfl
                go_simp
              refine mixH_take rfl (by rfl) ?_; apply Exists.intro; refine ⟨fun w1 hS1 => ?_, ?_⟩
              · have a1 := HC.out j0 (by omega) _ hS1
                rw [HQ.out] at a1; unfold RecAt at a1; dsimp only at a1; obtain ⟨c0, c1, c2, c3, c4, c5, c6⟩ := a1
                have lb := Nat.lt_of_lt_of_le hlb.out hS1.size
                clear hS1; go_simp
                try rfl
              go_simp
              iterate 3
                refine mixH_take rfl (by rfl) ?_; apply Exists.intro; refine ⟨fun w1 hS1 => ?_, ?_⟩
                · clear hS1
                  go_simp
                  try rfl
                go_simp
              refine mixH_take rfl (by rfl) ?_; apply Exists.intro; refine ⟨fun w1 hS1 => ?_, ?_⟩
              · have a1 := HC.out (j0 + 1) (by omega) _ hS1
                rw [HP.out] at a1; unfold RecAt at a1; dsimp only at a1; obtain ⟨c0, c1, c2, c3, c4, c5, c6⟩ := a1
                have lb := Nat.lt_of_lt_of_le hlb.out hS1.size
                clear hS1; go_simp
                try rfl
              go_simp; refine mixH_go rfl (by rfl) (fun K hK => ?_); go_simp; refine (CLQ.out _).mono ?_; rintro z wB ⟨rfl, uB⟩; refine hK _ _ (((Up.refl _).drew.trans uA).trans uB) ?_; clear hK K; go_simp
              iterate 3
                refine mixH_take rfl (by rfl) ?_; apply Exists.intro; refine ⟨fun w1 hS1 => ?_, ?_⟩
                · clear hS1
                  go_simp
                  try rfl
                go_simp
              refine mixH_nil ?_
              have HN := Lib.hid (show rowsB n til p1 (prevR xs ((j0 + 1) + 1)) (xs.drop ((j0 + 1) + 1)) = res by rw [S.out, hro.out]; simp)
              go_wp2
              go_roundw
              case rel => exact ⟨⟨j0 + 1 + 1, by omega, by go_num, HN⟩, UW.out.trans (((Up.refl _).drew.trans uA).trans uB)⟩
              case measure => simp [intOf]; omega
        · have HF := Lib.hid (show res = false by rw [S.out, hro.out]; simp [hto])
          have hd1 : decide (p1 = comp) = false := decide_eq_false hto
          have hd2 : (p1 != comp) = true := by simp [hto]
          go_wp2_with fail
          refine region_mixH (fun w' => Up wr w') [(0, true), (1, true), (2, true), (3, true), (4, true), (5, false), (6, true), (7, true), (8, true), (9, true), (10, true), (11, true), (12, true), (13, true), (14, true), (15, true), (16, true), (17, true), (18, true), (19, true), (20, true), (21, true), (22, true), (23, true), (24, true), (25, true), (26, true), (27, true), (28, true), (29, true), (30, true), (31, true), (32, true), (33, true)] (by kernel_rfl) (by kernel_rfl) (Up.refl _).drew ?_; refine mixH_take rfl (by rfl) ?_; apply Exists.intro; refine ⟨fun w1 hS1 => ?_, ?_⟩
          · have m0 := (X.out.up hS1).cell (j := 0) rfl
            have m1 := (X.out.up hS1).cell (j := 1) rfl
            have m2 := (X.out.up hS1).cell (j := 2) rfl
            have lx := (X.out.up hS1).lt
            clear hS1; go_simp
            try rfl
          go_simp
          iterate 3
            refine mixH_take rfl (by rfl) ?_; apply Exists.intro; refine ⟨fun w1 hS1 => ?_, ?_⟩
            · clear hS1
              go_simp
              try rfl
            go_simp
          refine mixH_take rfl (by rfl) ?_; apply Exists.intro; refine ⟨fun w1 hS1 => ?_, ?_⟩
          · have a1 := HC.out (j) (by omega) _ hS1
            rw [HP.out] at a1; unfold RecAt at a1; dsimp only at a1; obtain ⟨c0, c1, c2, c3, c4, c5, c6⟩ := a1
            have lb := Nat.lt_of_lt_of_le hlb.out hS1.size
            clear hS1; go_simp
            try rfl
          go_simp; refine mixH_go rfl (by rfl) (fun K hK => ?_); go_simp; refine (CII.out _).mono ?_; rintro z wA ⟨rfl, uA⟩; refine hK _ _ ((Up.refl _).drew.trans uA) ?_; clear hK K; go_simp
          iterate 7
            refine mixH_take rfl (by rfl) ?_; apply Exists.intro; refine ⟨fun w1 hS1 => ?_, ?_⟩
            · clear hS1
              go_simp
              try rfl
            go_simp
          refine mixH_take rfl (by rfl) ?_; apply Exists.intro; refine ⟨fun w1 hS1 => ?_, ?_⟩
          · have a1 := HC.out (j) (by omega) _ hS1
            rw [HP.out] at a1; unfold RecAt at a1; dsimp only at a1; obtain ⟨c0, c1, c2, c3, c4, c5, c6⟩ := a1
            have lb := Nat.lt_of_lt_of_le hlb.out hS1.size
            clear hS1; go_simp
            try rfl
          go_simp
          iterate 4
            refine mixH_take rfl (by rfl) ?_; apply Exists.intro; refine ⟨fun w1 hS1 => ?_, ?_⟩
            · clear hS1
              go_simp
              try rfl
            go_simp
          iterate 15
            refine mixH_skip rfl (by rfl) ?_; go_simp
          refine mixH_take rfl (by rfl) ?_; apply Exists.intro; refine ⟨fun w1 hS1 => ?_, ?_⟩
          · clear hS1
            go_simp
            try rfl
          go_simp; refine mixH_nil ?_; go_wp2; go_ret
          exact ⟨ret_bool HF.out.symm, UR.out.trans ((Up.refl _).drew.trans uA)⟩
    · obtain rfl : j = l := by omega
      have i4 : ¬ (j : Int) < j := by omega
      have HT := Lib.hid (show res = true by rw [← HR.out]; exact SE.out j _ (by rw [LE.out]; omega))
      clear ur; go_wp2; go_ret
      exact ⟨ret_bool HT.out.symm, UR.out⟩
end Go.Proofs.YtlkmhmiamdbhcabGreat

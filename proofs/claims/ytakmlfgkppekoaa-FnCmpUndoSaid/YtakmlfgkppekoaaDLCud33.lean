/-
  What impl.CmpUndo returns, in one sentence: the component ahead of an event and true, or the zero state and false; for every model, component and event in memory.
-/
import Derived.Test.YtakmlfgkppekoaaDLCud32
namespace Go.Proofs.Ytakmlfgkppekoaa
set_option maxRecDepth 100000
open Go.RowKit
theorem backM_one (m : Mdl) (c : Cst) (e : Evt) : backM m c [e] = undoM m c e := by
  unfold backM undoM
  have h : backE m c [e].reverse = undoE m c e := by
    simp only [List.reverse_cons, List.reverse_nil, List.nil_append, backE]
    cases undoE m c e <;> rfl
  rw [h]; simp
theorem undoR_form (o : Option Cst) : ∃ d0 d1 d2 g, undoR o = .tuple #[.agg #[.int .i64 d0, .int .i64 d1, .int .i64 d2], .bool g] := by
  cases o with
  | none => exact ⟨0, 0, 0, false, rfl⟩
  | some y => exact ⟨y.s, y.sq, y.ct, true, rfl⟩
set_option maxHeartbeats 4000000 in
theorem implCud_any (A : Option Addr) (n c : Nat) (B : Option Addr) (k d : Nat) (m : Mdl) (s : Cst) (hI : s.ct ≤ 9223372036854775807) (e : Evt) (w : World) (hM : MdlV w A n B k m) :
    Calls Try.prog 26 #[.agg #[.slice A n c, .slice B k d, .int .i64 m.til], s.v, e.v] w fun x w' => x = .returned (undoR (undoM m s e)) ∧ Up w w' := by
  have CB := Lib.hid (fun W (u : Up w W) Lg hE => implBack_any A n c B k d m s hI (some ⟨Lg, 0, none⟩) 1 1 [e] W (hM.up u) hE)
  rw [backM_one] at CB; obtain ⟨d0, d1, d2, g, hR⟩ := undoR_form (undoM m s e); rw [hR] at CB ⊢; clear hR hM; obtain ⟨ss, sq, st⟩ := s; obtain ⟨et, eto, efr, esq, ekd, edt⟩ := e; unfold Cst.v at CB; unfold Cst.v Evt.v; dsimp only at CB ⊢
  generalize m.til = til at *
  have U1 := Lib.hid (((((Up.refl w).alloc (.cells #[.slice A n c, .slice B k d, .int .i64 til] 33)).alloc (.cells #[.int .i64 ss, .int .i64 sq, .int .i64 st] 41)).alloc (.cells #[.int .i64 et, .int .i64 eto, .int .i64 efr, .int .i64 esq, .int .i64 ekd, .int .i64 edt] 45)).alloc (.cells #[.int .i64 0, .int .i64 0, .int .i64 0] 41))
  have X6 := Lib.hid (Cell3.new (((w.alloc (.cells #[.slice A n c, .slice B k d, .int .i64 til] 33)).alloc (.cells #[.int .i64 ss, .int .i64 sq, .int .i64 st] 41)).alloc (.cells #[.int .i64 et, .int .i64 eto, .int .i64 efr, .int .i64 esq, .int .i64 ekd, .int .i64 edt] 45)) 0 0 0 41)
  have HE := Lib.hid (Evs.new ((((w.alloc (.cells #[.slice A n c, .slice B k d, .int .i64 til] 33)).alloc (.cells #[.int .i64 ss, .int .i64 sq, .int .i64 st] 41)).alloc (.cells #[.int .i64 et, .int .i64 eto, .int .i64 efr, .int .i64 esq, .int .i64 ekd, .int .i64 edt] 45)).alloc (.cells #[.int .i64 0, .int .i64 0, .int .i64 0] 41)) ⟨et, eto, efr, esq, ekd, edt⟩ 45)
  simp only [World.size_alloc] at X6 HE
  go_enter Try.func26, Try.ntmps26
  go_wp2_with fail
  generalize (((w.alloc (.cells #[.slice A n c, .slice B k d, .int .i64 til] 33)).alloc (.cells #[.int .i64 ss, .int .i64 sq, .int .i64 st] 41)).alloc (.cells #[.int .i64 et, .int .i64 eto, .int .i64 efr, .int .i64 esq, .int .i64 ekd, .int .i64 edt] 45)).alloc (.cells #[.int .i64 0, .int .i64 0, .int .i64 0] 41) = W1 at *
  generalize hb6 : w.heap.size + 1 + 1 + 1 = b6 at *
  have B6 := Lib.hid (show w.heap.size ≤ b6 by omega)
  have ua := (Up.refl W1).alloc (.cells #[.int .i64 et, .int .i64 eto, .int .i64 efr, .int .i64 esq, .int .i64 ekd, .int .i64 edt] 45)
  replace U1 := Lib.hid (U1.out.trans ua)
  replace X6 := Lib.hid (X6.out.up ua)
  clear ua
  generalize b6 + 1 = b7 at *
  generalize W1.alloc (.cells #[.int .i64 et, .int .i64 eto, .int .i64 efr, .int .i64 esq, .int .i64 ekd, .int .i64 edt] 45) = W2 at *
  refine (CB.out _ U1.out _ HE.out).mono ?_; rintro x w2 ⟨rfl, u2⟩
  replace U1 := Lib.hid (U1.out.trans u2)
  replace X6 := Lib.hid (X6.out.up u2)
  clear u2 HE CB; obtain ⟨q0, q1, q2⟩ := And.intro X6.out.c0 (And.intro X6.out.c1 X6.out.c2)
  have qf := X6.out.f
  have ql := X6.out.lt
  obtain ⟨k0, k1, k2⟩ := And.intro (X6.out.laid' d0 d1 d2).c0 (And.intro (X6.out.laid' d0 d1 d2).c1 (X6.out.laid' d0 d1 d2).c2)
  have UE := Lib.hid (((U1.out.setCell (p := ⟨b6, 0, none⟩) B6.out (.int .i64 d0)).setCell (p := ⟨b6, 1, none⟩) B6.out (.int .i64 d1)).setCell (p := ⟨b6, 2, none⟩) B6.out (.int .i64 d2))
  go_wp2
  exact bodyPost_ret (v := .tuple #[.agg #[.int .i64 d0, .int .i64 d1, .int .i64 d2], .bool g]) (by simp [results, Try.results26, go_sem, k0, k1, k2]) rfl ⟨rfl, UE.out⟩
end Go.Proofs.Ytakmlfgkppekoaa

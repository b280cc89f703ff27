/-
  What impl.EvtTake returns, in one sentence: a new slice of the list without the first place of the event, and whether there is one; for every list that lies in memory.
-/
import Derived.Test.YtkfjemgelmbcfaaConc2
import Derived.Test.YtkfjemgelmbcfaaIndex
import Derived.Test.YtkfjemgelmbcfaaCut
import Derived.Test.YtkfjemgelmbcfaaMix
namespace Go.Proofs.Ytkfjemgelmbcfaa
set_option maxRecDepth 100000
open Go.RowKit


/-- What is left of a list without the place r; all of it, if r is less than 0. -/
def outE (es : List Evt) (r : Int) : List Evt := if r < 0 then es else es.take r.toNat ++ es.drop (r.toNat + 1)
theorem outE_no (es : List Evt) : outE es (-1) = es := rfl
theorem outE_at (es : List Evt) (k : Nat) : outE es (k : Int) = es.take k ++ es.drop (k + 1) := by
  unfold outE
  rw [if_neg (by omega), Int.toNat_natCast]
theorem outE_le (es : List Evt) (r : Int) : (outE es r).length ≤ es.length := by
  unfold outE
  split
  · exact Nat.le_refl _
  · rw [List.length_append, List.length_take, List.length_drop]
    omega

/-- What the two EvtTake give. -/
def TakePost (e : Evt) (es : List Evt) (w : World) (x : Ending) (w' : World) : Prop :=
  ∃ r A c, IsAt e es r ∧ x = .returned (.tuple #[.slice A (outE es r).length c, .bool (decide (0 ≤ r))]) ∧ (outE es r).length ≤ c ∧ c ≤ 9223372036854775807 ∧
    w'.ownsRow w.heap.size 50 6 (.slice A (outE es r).length c) (outE es r).length (flat (outE es r)) ∧ Up w w'
theorem TakePost.mk {e : Evt} {es fs : List Evt} {r : Int} {b : Bool} {A : Option Addr} {c base : Nat} {w w' : World} (hat : IsAt e es r) (hf : outE es r = fs) (hb : decide (0 ≤ r) = b) (hc : fs.length ≤ c) (hm : c ≤ 9223372036854775807)
    (ho : w'.ownsRow base 50 6 (.slice A fs.length c) fs.length (flat fs)) (hbs : w.heap.size ≤ base) (u : Up w w') : TakePost e es w (.returned (.tuple #[.slice A fs.length c, .bool b])) w' := by
  subst hf hb
  exact ⟨r, A, c, hat, rfl, hc, hm, own_mono ho hbs, u⟩

set_option maxRecDepth 100000 in
set_option maxHeartbeats 4000000 in
theorem implTake_any (A : Option Addr) (n cap : Nat) (es : List Evt) (e : Evt) (w : World) (hn : n ≤ 1000000000) (hc : n ≤ cap) (hmax : cap ≤ 9223372036854775807) (hE : Evs w A n es) :
    Calls Try.prog 32 #[.slice A n cap, e.v] w (TakePost e es w) := by
  have HE := Lib.hid hE
  have LE := Lib.hid hE.1
  have CI := Lib.hid (fun W h => index_any A n cap es e W hn h)
  clear hE
  generalize hee : e = e' at CI ⊢
  have HEE := Lib.hid hee
  clear hee
  obtain ⟨et, eto, efr, esq, ekd, edt⟩ := e'
  unfold Evt.v at CI ⊢
  dsimp only at CI ⊢
  go_enter Try.func32, Try.ntmps32
  go_wp2_with fail
  refine (CI.out _ (HE.out.up ((Up.refl w).alloc _))).mono ?_
  rintro x w1 ⟨r, rfl, hat, u1⟩
  have HAT := Lib.hid hat
  have U1 := Lib.hid (((Up.refl w).alloc (.cells #[.int .i64 et, .int .i64 eto, .int .i64 efr, .int .i64 esq, .int .i64 ekd, .int .i64 edt] 50)).trans u1)
  have hs1 := U1.out.size
  have EV := Lib.hid (HE.out.up U1.out)
  clear u1 CI HE
  rcases hat with ⟨k, rfl, hk, -⟩ | ⟨rfl, -⟩
  · rw [LE.out] at hk
    have i0 : (0 : Int) ≤ k := by omega
    have i1 : ¬ (k : Int) < 0 := by omega
    have i2 : (k : Int) ≤ cap := by omega
    have i4 : (k : Int) ≤ n := by omega
    have i5 : (0 : Int) ≤ (k : Int) + 1 := by omega
    have i6 : (k : Int) + 1 ≤ cap := by omega
    have i3 : (k : Int) + 1 ≤ n := by omega
    have i7 : ((k : Int) + 1).toNat = k + 1 := by omega
    have i8 : (n : Int) ≤ cap := by omega
    have i9 : IntKind.i64.wrap ((k : Int) + 1) = (k : Int) + 1 := IntWalk.i64_in _ (by omega)
    have E1 := Lib.hid ((EV.out.front (k := k) (by omega)).up (Up.refl w1).drew)
    have E2 := Lib.hid ((EV.out.rest (k := k + 1) (cap := cap) (by omega) (by omega)).up (Up.refl w1).drew)
    have HF := Lib.hid (outE_at es k)
    go_wp2_with fail
    refine region_mix [(0, true), (1, true), (2, true), (3, true), (4, true), (5, true), (6, true), (7, false), (8, false), (9, true), (10, true)] (by kernel_rfl) (by kernel_rfl) ?_
    refine mix_take rfl (by rfl) ?_
    apply Exists.intro
    refine ⟨fun w1 => ?_, ?_⟩
    · go_simp
      try rfl
    go_simp
    refine mix_take rfl (by rfl) ?_
    apply Exists.intro
    refine ⟨fun w1 => ?_, ?_⟩
    · go_simp
      try rfl
    go_simp
    refine mix_take rfl (by rfl) ?_
    apply Exists.intro
    refine ⟨fun w1 => ?_, ?_⟩
    · go_simp
      try rfl
    go_simp
    refine mix_take rfl (by rfl) ?_
    apply Exists.intro
    refine ⟨fun w1 => ?_, ?_⟩
    · go_simp
      try rfl
    go_simp
    refine mix_take rfl (by rfl) ?_
    apply Exists.intro
    refine ⟨fun w1 => ?_, ?_⟩
    · go_simp
      try rfl
    go_simp
    refine mix_take rfl (by rfl) ?_
    apply Exists.intro
    refine ⟨fun w1 => ?_, ?_⟩
    · go_simp
      try rfl
    go_simp
    refine mix_take rfl (by rfl) ?_
    apply Exists.intro
    refine ⟨fun w1 => ?_, ?_⟩
    · go_simp
      try rfl
    go_simp
    refine mix_go rfl (by rfl) (fun K hK => ?_)
    go_simp
    refine hK _ _ ?_
    clear hK K
    go_simp
    refine mix_go rfl (by rfl) (fun K hK => ?_)
    go_simp
    refine (concat2 _ _ _ _ _ _ _ _ _ E1.out E2.out (by omega)).mono ?_
    rintro x w2 ⟨A2, c2, rfl, hc2, hm2, e2, o2, u2⟩
    refine hK _ _ ?_
    clear hK K
    have O2 := Lib.hid o2
    have U2 := Lib.hid u2
    clear e2 o2 u2
    generalize List.take k es ++ List.drop (k + 1) es = fs at HF hc2 O2 ⊢
    go_simp
    refine mix_take rfl (by rfl) ?_
    apply Exists.intro
    refine ⟨fun w1 => ?_, ?_⟩
    · go_simp
      try rfl
    go_simp
    refine mix_take rfl (by rfl) ?_
    apply Exists.intro
    refine ⟨fun w1 => ?_, ?_⟩
    · go_simp
      try rfl
    go_simp
    refine mix_nil ?_
    go_wp2
    all_goals refine bodyPost_ret (v := .tuple #[.slice A2 fs.length c2, .bool true]) (by simp [results, Try.results32, go_sem]) rfl ?_
    all_goals exact TakePost.mk HAT.out HF.out (by simp) hc2 hm2 O2.out (by simp; omega) ((U1.out.drew.alloc _).trans U2.out)
  · go_wp2_with fail
    refine (concat1 _ _ _ _ _ EV.out (by omega)).mono ?_
    rintro x w2 ⟨A2, c2, rfl, hc2, hm2, e2, o2, u2⟩
    have O2 := Lib.hid o2
    have U2 := Lib.hid u2
    clear e2 o2 u2
    go_wp2
    refine bodyPost_ret (v := .tuple #[.slice A2 es.length c2, .bool false]) (by simp [results, Try.results32, go_sem]) rfl ?_
    exact TakePost.mk HAT.out (outE_no _) rfl hc2 hm2 O2.out (by simp; omega) ((U1.out.alloc _).trans U2.out)

end Go.Proofs.Ytkfjemgelmbcfaa

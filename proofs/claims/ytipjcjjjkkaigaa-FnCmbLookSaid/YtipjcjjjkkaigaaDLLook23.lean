/-
  What a component does, where it may, in one sentence: it stays valid and sends later, valid events; for every valid model, component and event.
  What FnCmbLook returns, in one sentence: true, with new blocks alone; for every two codes.
  For every two codes the law FnCmbLook returns true and leaves its arguments as they were; no condition.
-/
import Derived.Test.YtipjcjjjkkaigaaDLLook01
import Derived.Test.YtipjcjjjkkaigaaDLLook13
import Derived.Test.YtipjcjjjkkaigaaDLLook15
import Derived.Test.YtipjcjjjkkaigaaDLLook18
import Derived.Test.YtipjcjjjkkaigaaDLLook20
import Derived.Test.YtipjcjjjkkaigaaDLLook22
import Derived.Test.YtipjcjjjkkaigaaRows
namespace Go.Proofs.Ytipjcjjjkkaigaa
set_option maxRecDepth 100000
open Go.RowKit
theorem inRule {kd : Int} : ∀ {rs : List Rule} {r : Rule}, ruleOf kd rs = some r → r ∈ rs
  | [], _, h => by cases h
  | x :: rs, r, h => by
    rw [ruleOf] at h
    split at h
    · injection h with h
      exact h ▸ List.mem_cons_self
    · exact List.mem_cons_of_mem _ (inRule h)
end Go.Proofs.Ytipjcjjjkkaigaa

namespace Go.Proofs.Ytipjcjjjkkaigaa
set_option maxRecDepth 100000
open Go.RowKit
/-- What a lookahead is. -/
theorem look_in {m : Mdl} {fr to z : Int} (h : lookV m fr to = z) (hm : mdlB m = true) (hf : 0 ≤ fr ∧ fr < m.rules.length) (ht : 0 ≤ to ∧ to < m.rules.length) :
    z = lkR to (m.til + 1) (m.rules.getD fr.toNat []) ∧ 1 ≤ z ∧ z ≤ m.til + 1 := by
  have e : lookV m fr to = lkR to (m.til + 1) (m.rules.getD fr.toNat []) := by
    unfold lookV; rw [if_pos]; simp only [Bool.and_eq_true, inB_iff, hm]
    exact ⟨⟨trivial, by omega⟩, by omega⟩
  have h1 := lkR_low to (-1) (m.rules.getD fr.toNat []) (m.til + 1) (mdlB_row hm fr.toNat (by omega)) (by have := mdlB_til hm; omega)
  have h2 := lkR_le to (m.rules.getD fr.toNat []) (m.til + 1)
  omega
theorem look_out {m : Mdl} {fr to z : Int} (h : lookV m fr to = z) (ho : mdlB m = false ∨ fr < 0 ∨ (m.rules.length : Int) ≤ fr ∨ to < 0 ∨ (m.rules.length : Int) ≤ to) : z = -1 := by
  rw [← h]; unfold lookV; rw [if_neg]; intro hc; simp only [Bool.and_eq_true, inB_iff] at hc
  rcases ho with ho | ho
  · rw [ho] at hc
    exact absurd hc.1.1 (by simp)
  · omega
/-- What is sent to another component comes later by the lookahead. -/
theorem look_sent {m : Mdl} {s : Cst} {e : Evt} {to z : Int} (hz : z = lkR to (m.til + 1) (m.rules.getD e.to.toNat [])) (hok : mayB m s e = true) :
    ∀ j, j < (doM m s e).2.length → ((doM m s e).2.getD j default).to = to → e.t + z ≤ ((doM m s e).2.getD j default).t := by
  intro j hj hto
  have hmem : (doM m s e).2.getD j default ∈ (doM m s e).2 := by
    rw [List.getD, List.getElem?_eq_getElem hj]
    exact List.getElem_mem hj
  generalize (doM m s e).2.getD j default = y at hto hmem ⊢
  rw [doM, if_pos hok, doE] at hmem
  cases hr : ruleOf e.kd (m.rules.getD e.to.toNat []) with
  | none =>
    rw [hr] at hmem; simp at hmem
  | some r =>
    rw [hr] at hmem; dsimp only at hmem; obtain ⟨x, hx, h1, h2⟩ := sendsE_from _ _ _ _ _ _ hmem
    have := lkR_each to (m.rules.getD e.to.toNat []) (m.til + 1) r x (inRule hr) hx (by omega)
    omega
/-- At most two events are sent. -/
theorem do_few {m : Mdl} {s : Cst} {e : Evt} (hok : mayB m s e = true) : (doM m s e).2.length ≤ 12 := by
  rw [doM, if_pos hok, doE]
  cases hr : ruleOf e.kd (m.rules.getD e.to.toNat []) with
  | none => simp
  | some r =>
    dsimp only; simp only [mayB, cstB, Bool.and_eq_true, inB_iff] at hok
    have hm := hok.1.1.1
    have hb := hok.1.2
    unfold okB at hb; simp only [Bool.and_eq_true, inB_iff] at hb
    have hrb := mdlB_rule (m := m) (i := e.to.toNat) (kd := e.kd) hm (by omega) hr
    obtain ⟨hsn, hlen, _⟩ := ruleB_parts hrb
    have F := sendsE_facts m.til ((r.a * s.s + r.b * e.dt + r.c) % 97) m.rules.length e r.sends s.sq (fun x hx => by
      simp only [ruleB, Bool.and_eq_true, List.all_eq_true] at hrb
      exact hrb.1.1.1.1.1 x hx) (by omega) (by omega)
    have := F.len
    have := F.top
    omega
set_option maxHeartbeats 4000000 in
theorem walkLook {w : World} (A : Option Addr) (n cap : Nat) (hc : n ≤ cap) (hmax : cap ≤ 9223372036854775807) (hB : Bys w A n w.heap.size)
    (A2 : Option Addr) (n2 cap2 : Nat) (hc2 : n2 ≤ cap2) (hmax2 : cap2 ≤ 9223372036854775807) (hB2 : Bys w A2 n2 w.heap.size) :
    Calls Try.prog 6 #[.slice A n cap, .slice A2 n2 cap2] w fun x w' => x = .returned (.bool true) ∧ Up w w' := by
  have HB := Lib.hid hB
  have HB2 := Lib.hid hB2
  clear hB hB2
  by_cases h : 1048576 < n
  · have h' : (1048576 : Int) < n := by omega
    go_enter Try.func6, Try.ntmps6
    go_wp2; go_ret
    exact ⟨rfl, Up.refl _⟩
  · have h' : ¬ (1048576 : Int) < n := by omega
    by_cases h2 : 1048576 < n2
    · have h2' : (1048576 : Int) < n2 := by omega
      go_enter Try.func6, Try.ntmps6
      go_wp2; go_ret
      exact ⟨rfl, Up.refl _⟩
    · have h2' : ¬ (1048576 : Int) < n2 := by omega
      go_enter Try.func6, Try.ntmps6
      go_wp2_with fail
      refine (drawLook_any A n cap _ hc hmax HB.out).mono ?_; rintro x w1 ⟨A, n, c, B, k, d, m, fr, to, rfl, MV, ⟨hn, hnc, hcm⟩, ⟨⟨hf0, hf1⟩, ht0, ht1⟩, u1⟩
      have UW1 := Lib.hid u1
      have MV1 := Lib.hid MV
      have hln := MV.rules.1
      have CI := Lib.hid (fun W (u : Up w1 W) => implLook_any A n c B k d m fr to W (MV.up u))
      have CP := Lib.hid (fun W (u : Up w1 W) => specLook_any A n c B k d m fr to W (MV.up u))
      have CM := Lib.hid (fun W (u : Up w1 W) => specMdl_any A n c B k d m W (MV.up u))
      have TL := Lib.hid (fun h => mdlB_til (m := m) h)
      generalize hz : lookV m fr to = z at CI CP
      have LIN := Lib.hid (fun hm hf ht => look_in (m := m) (fr := fr) (to := to) hz hm hf ht)
      have LOUT := Lib.hid (fun ho => look_out hz ho)
      rw [hln] at LIN LOUT
      have HLN := Lib.hid hln
      clear hz hln
      have bne0 : (z != z) = false := by simp
      have B3 := Lib.hid (Blk.new w1 #[.slice A n c, .slice B k d, .int .i64 m.til] 38)
      have U := Lib.hid ((Up.refl w1).alloc (.cells #[.slice A n c, .slice B k d, .int .i64 m.til] 38))
      obtain ⟨m0, m1, m2⟩ := And.intro (B3.out.cell (j := 0) rfl) (And.intro (B3.out.cell (j := 1) rfl) (B3.out.cell (j := 2) rfl))
      have lt3_ := B3.out.lt
      clear MV u1
      go_wp2_with fail
      generalize w1.alloc (.cells #[.slice A n c, .slice B k d, .int .i64 m.til] 38) = W3 at *
      generalize hb3 : w1.heap.size = b3 at *
      clear hb3; refine (CI.out _ U.out).mono ?_; rintro x w4 ⟨rfl, u4⟩
      replace U := Lib.hid (U.out.trans u4)
      replace B3 := Lib.hid (B3.out.up u4)
      clear m0 m1 m2 lt3_; clear u4; obtain ⟨m0, m1, m2⟩ := And.intro (B3.out.cell (j := 0) rfl) (And.intro (B3.out.cell (j := 1) rfl) (B3.out.cell (j := 2) rfl))
      have lt3_ := B3.out.lt
      go_wp2_with fail
      refine (CP.out _ U.out).mono ?_; rintro x w5 ⟨rfl, u5⟩
      replace U := Lib.hid (U.out.trans u5)
      replace B3 := Lib.hid (B3.out.up u5)
      clear m0 m1 m2 lt3_; clear u5; obtain ⟨m0, m1, m2⟩ := And.intro (B3.out.cell (j := 0) rfl) (And.intro (B3.out.cell (j := 1) rfl) (B3.out.cell (j := 2) rfl))
      have lt3_ := B3.out.lt
      generalize hmb : mdlB m = bm at CM LIN LOUT
      have HMB := Lib.hid hmb
      clear hmb
      go_wp2_with fail
      refine (CM.out _ U.out).mono ?_; rintro x w6 ⟨rfl, u6⟩
      replace U := Lib.hid (U.out.trans u6)
      replace B3 := Lib.hid (B3.out.up u6)
      clear m0 m1 m2 lt3_; clear u6; obtain ⟨m0, m1, m2⟩ := And.intro (B3.out.cell (j := 0) rfl) (And.intro (B3.out.cell (j := 1) rfl) (B3.out.cell (j := 2) rfl))
      have lt3_ := B3.out.lt
      clear CI CP CM
      cases bm
      · obtain rfl : z = -1 := LOUT.out (.inl rfl)
        go_wp2; go_ret
        exact ⟨rfl, UW1.out.trans U.out⟩
      · have hfz : True := trivial
        by_cases f0 : fr < 0
        · obtain rfl : z = -1 := LOUT.out (.inr (.inl f0))
          go_wp2; go_ret
          exact ⟨rfl, UW1.out.trans U.out⟩
        · by_cases f3 : (n : Int) ≤ fr
          · obtain rfl : z = -1 := LOUT.out (.inr (.inr (.inl f3)))
            go_wp2; go_ret
            exact ⟨rfl, UW1.out.trans U.out⟩
          · by_cases f4 : (n : Int) ≤ to
            · have t0 : ¬ to < 0 := by omega
              obtain rfl : z = -1 := LOUT.out (.inr (.inr (.inr (.inr f4)))); go_wp2; go_ret
              exact ⟨rfl, UW1.out.trans U.out⟩
            · have t0 : ¬ to < 0 := by omega
              obtain ⟨hzv, hz1, hz2⟩ := LIN.out rfl (by omega) (by omega)
              have HZV := Lib.hid hzv
              clear hzv LIN LOUT bne0
              have tl := TL.out HMB.out
              clear TL
              have HB3 : Bys w6 A2 n2 w6.heap.size := fun h0 => by
                obtain ⟨b, off, hA, hb, hcc⟩ := HB2.out.keep (fun b o hb => (UW1.out.trans U.out).cells b o hb) h0
                exact ⟨b, off, hA, by have := (UW1.out.trans U.out).size; omega, hcc⟩
              go_wp2_with fail
              refine (drawCD_any A2 n2 cap2 _ hc2 hmax2 HB3).mono ?_; rintro x w7 ⟨Ax, nx, cx, Bx, kx, dx, mx, ⟨ss, sq, sc⟩, ⟨et, eto, efr, esq, ekd, edt⟩, rfl, _, _, ⟨hsc, _⟩, u7⟩
              replace U := Lib.hid (U.out.trans u7)
              replace B3 := Lib.hid (B3.out.up u7)
              clear m0 m1 m2 lt3_; clear u7 HB3; unfold Cst.v Evt.v; dsimp only at hsc ⊢; obtain ⟨mn, hmn⟩ : ∃ mn, (if m.til < et then m.til else et) = mn := ⟨_, rfl⟩
              have y2 := (((B3.out.alloc (.cells #[.slice Ax nx cx, .slice Bx kx dx, .int .i64 mx.til] 38)).alloc (.cells #[.int .i64 ss, .int .i64 sq, .int .i64 sc] 28)).alloc (.cells #[.int .i64 et, .int .i64 fr, .int .i64 efr, .int .i64 esq, .int .i64 ekd, .int .i64 edt] 51)).cell (j := 2) rfl
              have lt3_ := (((B3.out.alloc (.cells #[.slice Ax nx cx, .slice Bx kx dx, .int .i64 mx.til] 38)).alloc (.cells #[.int .i64 ss, .int .i64 sq, .int .i64 sc] 28)).alloc (.cells #[.int .i64 et, .int .i64 fr, .int .i64 efr, .int .i64 esq, .int .i64 ekd, .int .i64 edt] 51)).lt
              replace B3 := Lib.hid (((B3.out.alloc (.cells #[.slice Ax nx cx, .slice Bx kx dx, .int .i64 mx.til] 38)).alloc (.cells #[.int .i64 ss, .int .i64 sq, .int .i64 sc] 28)).alloc (.cells #[.int .i64 mn, .int .i64 fr, .int .i64 (-1), .int .i64 esq, .int .i64 ekd, .int .i64 edt] 51))
              have UE := Lib.hid ((((Up.refl w7).alloc (.cells #[.slice Ax nx cx, .slice Bx kx dx, .int .i64 mx.til] 38)).alloc (.cells #[.int .i64 ss, .int .i64 sq, .int .i64 sc] 28)).alloc (.cells #[.int .i64 mn, .int .i64 fr, .int .i64 (-1), .int .i64 esq, .int .i64 ekd, .int .i64 edt] 51))
              have B4 := Lib.hid ((Blk.new (w7.alloc (.cells #[.slice Ax nx cx, .slice Bx kx dx, .int .i64 mx.til] 38)) #[.int .i64 ss, .int .i64 sq, .int .i64 sc] 28).alloc (.cells #[.int .i64 mn, .int .i64 fr, .int .i64 (-1), .int .i64 esq, .int .i64 ekd, .int .i64 edt] 51))
              have B5 := Lib.hid (Blk.new ((w7.alloc (.cells #[.slice Ax nx cx, .slice Bx kx dx, .int .i64 mx.til] 38)).alloc (.cells #[.int .i64 ss, .int .i64 sq, .int .i64 sc] 28)) #[.int .i64 mn, .int .i64 fr, .int .i64 (-1), .int .i64 esq, .int .i64 ekd, .int .i64 edt] 51)
              simp only [World.size_alloc] at B4 B5 lt3_; obtain ⟨c0, c1, c2⟩ := And.intro (B4.out.cell (j := 0) rfl) (And.intro (B4.out.cell (j := 1) rfl) (B4.out.cell (j := 2) rfl))
              have lt4_ := B4.out.lt
              have hmt : mn ≤ m.til := by rw [← hmn]; split <;> omega
              have CS := Lib.hid (fun W => specCst_any ⟨ss, sq, sc⟩ W)
              have CO := Lib.hid (fun W => specOk_any ⟨mn, fr, -1, esq, ekd, edt⟩ (n : Int) W)
              have CD := Lib.hid (fun W (u : Up w1 W) => implCmpDo_any A n c B k d m ⟨ss, sq, sc⟩ ⟨mn, fr, -1, esq, ekd, edt⟩ W (MV1.out.up u))
              have LS := Lib.hid (fun hok => look_sent (m := m) (s := ⟨ss, sq, sc⟩) (e := ⟨mn, fr, -1, esq, ekd, edt⟩) HZV.out hok)
              have DF := Lib.hid (fun hok => do_few (m := m) (s := ⟨ss, sq, sc⟩) (e := ⟨mn, fr, -1, esq, ekd, edt⟩) hok)
              unfold ImplDoPost at CD; unfold Cst.v Evt.v at CD; unfold Cst.v at CS; unfold Evt.v at CO; dsimp only at CD CS CO LS
              have MAY := Lib.hid (show mayB m ⟨ss, sq, sc⟩ ⟨mn, fr, -1, esq, ekd, edt⟩ = (cstB ⟨ss, sq, sc⟩ && okB ⟨mn, fr, -1, esq, ekd, edt⟩ n) by unfold mayB; rw [HMB.out, HLN.out]; dsimp only; rw [decide_eq_true hmt, Bool.and_true, Bool.true_and])
              have OKI := Lib.hid (show okB ⟨mn, fr, -1, esq, ekd, edt⟩ n = true → 0 ≤ mn from fun h => by unfold okB at h; simp only [Bool.and_eq_true, inB_iff] at h; omega)
              generalize doM m ⟨ss, sq, sc⟩ ⟨mn, fr, -1, esq, ekd, edt⟩ = D at CD LS DF
              generalize cstB ⟨ss, sq, sc⟩ = cb at CS MAY
              generalize okB ⟨mn, fr, -1, esq, ekd, edt⟩ n = ob at CO MAY OKI
              have f1 : ¬ z < 1 := by omega
              have i1 : IntKind.i64.wrap (m.til + 1) = m.til + 1 := IntWalk.i64_in _ (by omega)
              have f2 : ¬ m.til + 1 < z := by omega
              go_wp2_with fail
              clear y2 c0 c1 c2 lt3_ lt4_
              replace U := Lib.hid (U.out.trans UE.out)
              generalize ((w7.alloc (.cells #[.slice Ax nx cx, .slice Bx kx dx, .int .i64 mx.til] 38)).alloc (.cells #[.int .i64 ss, .int .i64 sq, .int .i64 sc] 28)).alloc (.cells #[.int .i64 mn, .int .i64 fr, .int .i64 (-1), .int .i64 esq, .int .i64 ekd, .int .i64 edt] 51) = W8 at *
              clear UE hmn
              generalize w7.heap.size + 1 + 1 = b5 at *
              generalize w7.heap.size + 1 = b4 at *
              refine (CS.out _).mono ?_; rintro x w8 ⟨rfl, u8⟩
              replace U := Lib.hid (U.out.trans u8)
              replace B3 := Lib.hid (B3.out.up u8)
              replace B4 := Lib.hid (B4.out.up u8)
              replace B5 := Lib.hid (B5.out.up u8)
              clear u8; obtain ⟨m0, m1, m2⟩ := And.intro (B3.out.cell (j := 0) rfl) (And.intro (B3.out.cell (j := 1) rfl) (B3.out.cell (j := 2) rfl)); obtain ⟨c0, c1, c2⟩ := And.intro (B4.out.cell (j := 0) rfl) (And.intro (B4.out.cell (j := 1) rfl) (B4.out.cell (j := 2) rfl)); obtain ⟨e0, e1, e2⟩ := And.intro (B5.out.cell (j := 0) rfl) (And.intro (B5.out.cell (j := 1) rfl) (B5.out.cell (j := 2) rfl)); obtain ⟨e3, e4, e5⟩ := And.intro (B5.out.cell (j := 3) rfl) (And.intro (B5.out.cell (j := 4) rfl) (B5.out.cell (j := 5) rfl))
              have lt3_ := B3.out.lt
              have lt4_ := B4.out.lt
              have lt5_ := B5.out.lt
              cases cb
              · go_wp2
                go_ret
                exact ⟨rfl, UW1.out.trans U.out⟩
              · go_wp2_with fail
                refine (CO.out _).mono ?_; rintro x w9 ⟨rfl, u9⟩
                replace U := Lib.hid (U.out.trans u9)
                replace B3 := Lib.hid (B3.out.up u9)
                replace B4 := Lib.hid (B4.out.up u9)
                replace B5 := Lib.hid (B5.out.up u9)
                clear m0 m1 m2 c0 c1 c2 e0 e1 e2 e3 e4 e5 lt3_ lt4_ lt5_; clear u9; obtain ⟨m0, m1, m2⟩ := And.intro (B3.out.cell (j := 0) rfl) (And.intro (B3.out.cell (j := 1) rfl) (B3.out.cell (j := 2) rfl)); obtain ⟨c0, c1, c2⟩ := And.intro (B4.out.cell (j := 0) rfl) (And.intro (B4.out.cell (j := 1) rfl) (B4.out.cell (j := 2) rfl)); obtain ⟨e0, e1, e2⟩ := And.intro (B5.out.cell (j := 0) rfl) (And.intro (B5.out.cell (j := 1) rfl) (B5.out.cell (j := 2) rfl)); obtain ⟨e3, e4, e5⟩ := And.intro (B5.out.cell (j := 3) rfl) (And.intro (B5.out.cell (j := 4) rfl) (B5.out.cell (j := 5) rfl))
                have lt3_ := B3.out.lt
                have lt4_ := B4.out.lt
                have lt5_ := B5.out.lt
                cases ob
                · go_wp2
                  go_ret
                  exact ⟨rfl, UW1.out.trans U.out⟩
                · have may := MAY.out.trans rfl
                  have LS2 := Lib.hid (LS.out may)
                  have DF2 := DF.out may
                  have mn0 := OKI.out rfl
                  clear MAY LS DF OKI may CS CO
                  go_wp2_with fail
                  refine (CD.out _ U.out).mono ?_; rintro x w10 ⟨v4, rfl, ho4, u10⟩; obtain ⟨⟨r0, r1, r2⟩, L1⟩ := D; dsimp only at ho4 LS2 DF2 ⊢; obtain ⟨_, A4, c4, rfl, hc4, hm4⟩ := own_slice ho4
                  have E4 := Lib.hid (own_evs ho4)
                  replace U := Lib.hid (U.out.trans u10)
                  replace B3 := Lib.hid (B3.out.up u10)
                  replace B4 := Lib.hid (B4.out.up u10)
                  replace B5 := Lib.hid (B5.out.up u10)
                  clear m0 m1 m2 c0 c1 c2 e0 e1 e2 e3 e4 e5 lt3_ lt4_ lt5_; clear u10 ho4 CD
                  have RS := (Up.refl w10).alloc (.cells #[.int .i64 r0, .int .i64 r1, .int .i64 r2] 28)
                  replace U := Lib.hid (U.out.trans RS)
                  replace E4 := Lib.hid (E4.out.up RS)
                  replace B3 := Lib.hid (B3.out.up RS)
                  replace B5 := Lib.hid (B5.out.up RS)
                  clear RS B4
                  go_wp2_with fail
                  generalize w10.alloc (.cells #[.int .i64 r0, .int .i64 r1, .int .i64 r2] 28) = W10 at *
                  go_loopw [14] (fun i wr => (∃ j : Nat, j ≤ L1.length ∧ i = .int .i64 j) ∧ Up W10 wr) (fun i _ => L1.length - (intOf i).toNat)
                  case atStart => exact ⟨⟨0, by omega, rfl⟩, Up.refl _⟩
                  case round =>
                    obtain ⟨⟨j, hj, rfl⟩, ur⟩ := hrel
                    have UR := Lib.hid ur
                    have E5 := E4.out.up ur
                    have R3 := Lib.hid (B3.out.up ur)
                    have R5 := Lib.hid (B5.out.up ur)
                    clear ur; obtain ⟨m0, m1, m2⟩ := And.intro (R3.out.cell (j := 0) rfl) (And.intro (R3.out.cell (j := 1) rfl) (R3.out.cell (j := 2) rfl)); obtain ⟨e0, e1, e2⟩ := And.intro (R5.out.cell (j := 0) rfl) (And.intro (R5.out.cell (j := 1) rfl) (R5.out.cell (j := 2) rfl)); obtain ⟨e3, e4, e5⟩ := And.intro (R5.out.cell (j := 3) rfl) (And.intro (R5.out.cell (j := 4) rfl) (R5.out.cell (j := 5) rfl))
                    have lt3_ := R3.out.lt
                    have lt5_ := R5.out.lt
                    by_cases hlt : j < L1.length
                    · have lt1 : (j : Int) < L1.length := by omega
                      obtain ⟨bL, offL, hA4, hbL, hat⟩ := E5.2 (by omega); subst hA4
                      have F := LS2.out j hlt
                      have AX := hat j hlt
                      clear hat E5
                      generalize L1.getD j default = xx at AX F
                      obtain ⟨xt, xto, xfr, xsq, xkd, xdt⟩ := xx; unfold EvAt at AX; dsimp only at F AX; obtain ⟨x0, x1, x2, x3, x4, x5⟩ := AX
                      have i2 : IntKind.i64.wrap (mn + z) = mn + z := IntWalk.i64_in _ (by omega)
                      have i3 : IntKind.i64.wrap ((j : Int) + 1) = (j : Int) + 1 := IntWalk.i64_in _ (by omega)
                      by_cases hto : xto = to
                      · have g1 : ¬ xt < mn + z := by have := F hto; omega
                        subst hto
                        go_wp2_with fail
                        refine region_qw (by kernel_rfl) (by kernel_rfl) ?_; refine qWalk_step ?_; intro K hK; go_simp; apply Exists.intro; refine And.intro ?_ ?_
                        · intro w1 hw1
                          try go_simp
                          try rfl
                        try go_simp
                        refine hK _ ?_; clear hK K; refine qWalk_step ?_; intro K hK; go_simp; apply Exists.intro; refine And.intro ?_ ?_
                        · intro w1 hw1
                          try go_simp
                          try rfl
                        try go_simp
                        refine hK _ ?_; clear hK K; refine qWalk_step ?_; intro K hK; go_simp; apply Exists.intro; refine And.intro ?_ ?_
                        · intro w1 hw1
                          try go_simp
                          try rfl
                        try go_simp
                        refine hK _ ?_; clear hK K; refine qWalk_step ?_; intro K hK; go_simp; apply Exists.intro; refine And.intro ?_ ?_
                        · intro w1 hw1
                          try go_simp
                          try rfl
                        try go_simp
                        refine hK _ ?_; clear hK K; refine qWalk_step ?_; intro K hK; go_simp; apply Exists.intro; refine And.intro ?_ ?_
                        · intro w1 hw1
                          obtain ⟨hc, hf, hz⟩ := hw1.facts
                          try simp at hz
                          try go_simp
                          try rfl
                        try go_simp
                        refine hK _ ?_; clear hK K; refine qWalk_step ?_; intro K hK; go_simp; apply Exists.intro; refine And.intro ?_ ?_
                        · intro w1 hw1
                          try go_simp
                          try rfl
                        try go_simp
                        refine hK _ ?_; clear hK K; refine qWalk_step ?_; intro K hK; go_simp; apply Exists.intro; refine And.intro ?_ ?_
                        · intro w1 hw1
                          try go_simp
                          try rfl
                        try go_simp
                        refine hK _ ?_; clear hK K; refine qWalk_step ?_; intro K hK; go_simp; apply Exists.intro; refine And.intro ?_ ?_
                        · intro w1 hw1
                          try go_simp
                          try rfl
                        try go_simp
                        refine hK _ ?_; clear hK K; refine qWalk_step ?_; intro K hK; go_simp; apply Exists.intro; refine And.intro ?_ ?_
                        · intro w1 hw1
                          try go_simp
                          try rfl
                        try go_simp
                        refine hK _ ?_; clear hK K; refine qWalk_step ?_; intro K hK; go_simp; apply Exists.intro; refine And.intro ?_ ?_
                        · intro w1 hw1
                          try go_simp
                          try rfl
                        try go_simp
                        refine hK _ ?_; clear hK K; refine qWalk_step ?_; intro K hK; go_simp; apply Exists.intro; refine And.intro ?_ ?_
                        · intro w1 hw1
                          try go_simp
                          try rfl
                        try go_simp
                        refine hK _ ?_; clear hK K; refine qWalk_step ?_; intro K hK; go_simp; apply Exists.intro; refine And.intro ?_ ?_
                        · intro w1 hw1
                          try go_simp
                          try rfl
                        try go_simp
                        refine hK _ ?_; clear hK K; refine qWalk_step ?_; intro K hK; go_simp; apply Exists.intro; refine And.intro ?_ ?_
                        · intro w1 hw1
                          obtain ⟨hc, hf, hz⟩ := hw1.facts
                          try simp at hz
                          try go_simp
                          try rfl
                        try go_simp
                        refine hK _ ?_; clear hK K; refine qWalk_step ?_; intro K hK; go_simp; apply Exists.intro; refine And.intro ?_ ?_
                        · intro w1 hw1
                          try go_simp
                          try rfl
                        try go_simp
                        refine hK _ ?_; clear hK K; refine qWalk_step ?_; intro K hK; go_simp; apply Exists.intro; refine And.intro ?_ ?_
                        · intro w1 hw1
                          obtain ⟨hc, hf, hz⟩ := hw1.facts
                          try simp at hz
                          try go_simp
                          try rfl
                        try go_simp
                        refine hK _ ?_; clear hK K; refine qWalk_step ?_; intro K hK; go_simp; apply Exists.intro; refine And.intro ?_ ?_
                        · intro w1 hw1
                          try go_simp
                          try rfl
                        try go_simp
                        refine hK _ ?_; clear hK K; refine qWalk_step ?_; intro K hK; go_simp; apply Exists.intro; refine And.intro ?_ ?_
                        · intro w1 hw1
                          try go_simp
                          try rfl
                        try go_simp
                        refine hK _ ?_; clear hK K; refine qWalk_step ?_; intro K hK; go_simp; apply Exists.intro; refine And.intro ?_ ?_
                        · intro w1 hw1
                          try go_simp
                          try rfl
                        try go_simp
                        refine hK _ ?_; clear hK K; refine qWalk_step ?_; intro K hK; go_simp; apply Exists.intro; refine And.intro ?_ ?_
                        · intro w1 hw1
                          try go_simp
                          try rfl
                        try go_simp
                        refine hK _ ?_; clear hK K; refine qWalk_nil ?_; intro wA uA
                        have UA := Lib.hid (UR.out.trans uA)
                        clear uA m0 m1 m2 e0 e1 e2 e3 e4 e5 lt3_ lt5_; go_wp2
                        go_roundw
                        case rel => exact ⟨⟨j + 1, by omega, by go_num⟩, UA.out⟩
                        case measure => simp [intOf]; omega
                      · have g2 : (xto == to) = false := by simp [hto]
                        go_wp2_with fail
                        refine region_qw (by kernel_rfl) (by kernel_rfl) ?_; refine qWalk_step ?_; intro K hK; go_simp; apply Exists.intro; refine And.intro ?_ ?_
                        · intro w1 hw1
                          try go_simp
                          try rfl
                        try go_simp
                        refine hK _ ?_; clear hK K; refine qWalk_step ?_; intro K hK; go_simp; apply Exists.intro; refine And.intro ?_ ?_
                        · intro w1 hw1
                          try go_simp
                          try rfl
                        try go_simp
                        refine hK _ ?_; clear hK K; refine qWalk_step ?_; intro K hK; go_simp; apply Exists.intro; refine And.intro ?_ ?_
                        · intro w1 hw1
                          try go_simp
                          try rfl
                        try go_simp
                        refine hK _ ?_; clear hK K; refine qWalk_step ?_; intro K hK; go_simp; apply Exists.intro; refine And.intro ?_ ?_
                        · intro w1 hw1
                          try go_simp
                          try rfl
                        try go_simp
                        refine hK _ ?_; clear hK K; refine qWalk_step ?_; intro K hK; go_simp; apply Exists.intro; refine And.intro ?_ ?_
                        · intro w1 hw1
                          obtain ⟨hc, hf, hz⟩ := hw1.facts
                          try simp at hz
                          try go_simp
                          try rfl
                        try go_simp
                        refine hK _ ?_; clear hK K; refine qWalk_step ?_; intro K hK; go_simp; apply Exists.intro; refine And.intro ?_ ?_
                        · intro w1 hw1
                          try go_simp
                          try rfl
                        try go_simp
                        refine hK _ ?_; clear hK K; refine qWalk_step ?_; intro K hK; go_simp; apply Exists.intro; refine And.intro ?_ ?_
                        · intro w1 hw1
                          try go_simp
                          try rfl
                        try go_simp
                        refine hK _ ?_; clear hK K; refine qWalk_step ?_; intro K hK; go_simp; apply Exists.intro; refine And.intro ?_ ?_
                        · intro w1 hw1
                          try go_simp
                          try rfl
                        try go_simp
                        refine hK _ ?_; clear hK K; refine qWalk_step ?_; intro K hK; go_simp; refine hK _ ?_; clear hK K; refine qWalk_step ?_; intro K hK; go_simp; refine hK _ ?_; clear hK K; refine qWalk_step ?_; intro K hK; go_simp; refine hK _ ?_; clear hK K; refine qWalk_step ?_; intro K hK; go_simp; refine hK _ ?_; clear hK K; refine qWalk_step ?_; intro K hK; go_simp; refine hK _ ?_; clear hK K; refine qWalk_step ?_; intro K hK; go_simp; refine hK _ ?_; clear hK K; refine qWalk_step ?_; intro K hK; go_simp; refine hK _ ?_; clear hK K; refine qWalk_step ?_; intro K hK; go_simp; refine hK _ ?_; clear hK K; refine qWalk_step ?_
                        intro K hK; go_simp; refine hK _ ?_; clear hK K; refine qWalk_step ?_; intro K hK; go_simp; refine hK _ ?_; clear hK K; refine qWalk_step ?_; intro K hK; go_simp; apply Exists.intro; refine And.intro ?_ ?_
                        · intro w1 hw1
                          try go_simp
                          try rfl
                        try go_simp
                        refine hK _ ?_; clear hK K; refine qWalk_nil ?_; intro wA uA
                        have UA := Lib.hid (UR.out.trans uA)
                        clear uA m0 m1 m2 e0 e1 e2 e3 e4 e5 lt3_ lt5_; go_wp2
                        go_roundw
                        case rel => exact ⟨⟨j + 1, by omega, by go_num⟩, UA.out⟩
                        case measure => simp [intOf]; omega
                    · obtain rfl : j = L1.length := by omega
                      have lt1 : ¬ ((L1.length : Nat) : Int) < L1.length := by omega
                      go_wp2; go_ret
                      exact ⟨rfl, UW1.out.trans (U.out.trans UR.out)⟩
end Go.Proofs.Ytipjcjjjkkaigaa

namespace Go.Proofs.Ytipjcjjjkkaigaa.fnCmbLook
set_option maxRecDepth 100000
open Go.ChangeShapes Go.WideShapes Go.ChangeAt Go.RowKit Go.Joins Go.Deep
set_option linter.unusedVariables false
set_option maxRecDepth 100000 in
theorem lifted (os : Os) (started : os.Started) (H : Type) (enc : TypeId × Value → H) :
    ReturnsInHanded {} Try.checked os 6 .any (Rows.fnCmbLookSpec.pre6 enc Try.prog Try.f6 Rows.fnCmbLookRow.domain false) (Rows.fnCmbLookSpec.post enc Try.prog Try.f6 false true false false) := by
  refine returnsInHanded_of_change (C := Try.checked) own started (by kernel_rfl) Try.func6
    (ChangeSpec.witness6 (enc := enc) (C := Try.checked) false ⟨#[], #[.slice none 0 0, .slice none 0 0], []⟩ 8 (by kernel_rfl) (by kernel_rfl) (by kernel_rfl) (by kernel_rfl)) ?_
  intro W base args ds gs before hval0 hW hcnd _
  have hval : ∀ (j : Nat) t v, Try.f6.params[j]? = some t → args[j]? = some v → Value.okWide Try.prog W .any base t v := hval0
  have hW' := hW
  obtain ⟨p, q, hA0, hV, rfl, hfz, hnd⟩ := hW
  have hA : DataW.TrodAll enc Try.prog W 0 (fun _ => true) true Try.f6.params.toList args.toList ds p := hA0
  rw [Try.params6] at hA hval; obtain ⟨v0, vs0, d0, ds0, p0, q0, hargs, rfl, rfl, h0, r0⟩ := trodAll_cons hA; obtain ⟨v1, vs1, d1, ds1, p1, q1, rfl, rfl, rfl, h1, r1⟩ := trodAll_cons r0; obtain ⟨rfl, rfl, rfl⟩ := trodAll_nil r1
  obtain rfl : args = #[v0, v1] := by cases args; simp_all
  obtain ⟨rfl, rfl⟩ := trodVars_none hV
  have k0 := h0
  have lt0 : ∀ x ∈ p0, x.block < W.heap.size := by obtain ⟨m, hm⟩ := k0; exact DataW.trod_lt m _ _ _ hm
  obtain ⟨A0, len0, cap0, rfl⟩ := okWide_slice Try.underlying45 (hval 0 45 v0 rfl rfl)
  have w0 := open_bytes h0
  have k1 := h1
  have lt1 : ∀ x ∈ p1, x.block < W.heap.size := by obtain ⟨m, hm⟩ := k1; exact DataW.trod_lt m _ _ _ hm
  obtain ⟨A1, len1, cap1, rfl⟩ := okWide_slice Try.underlying45 (hval 1 45 v1 rfl rfl)
  have w1 := open_bytes h1
  clear hA0 hval0
  refine (walkLook A0 len0 cap0 w0.2.1 w0.2.2 w0.1 A1 len1 cap1 w1.2.1 w1.2.2 w1.1).mono fun e W' ⟨he, bel⟩ => ?_
  subst he
  exact ⟨_, rfl, _, _, _, [], _, [], hW', trodAll_mk1 (shut_bool Try.underlying4 _), (trodAll_cons_mk (Below.trod laidOut (by kernel_rfl) (of_decide_eq_true (by kernel_rfl)) k0 bel lt0) (trodAll_cons_mk (Below.trod laidOut (by kernel_rfl) (of_decide_eq_true (by kernel_rfl)) k1 bel lt1) trodAll_mk0)), rfl, bel.frame _, fun h => by cases h⟩
theorem over : Rows.fnCmbLookRow.holds Try.pinned (OpenSpec.ofChange Rows.fnCmbLookSpec) :=
  OpenClaim.holds_of_wide 6 Try.f6 rfl rfl rfl rfl rfl rfl rfl ⟨rfl, rfl, rfl, rfl, rfl⟩ rfl rfl rfl rfl rfl (by kernel_rfl) Try.func6 (by kernel_rfl)
    (of_decide_eq_true (by kernel_rfl)) (by unfold Func.isWrapper; first | (rw [if_pos (by decide +kernel)]; kernel_rfl) | (rw [if_neg (by decide +kernel)]; exact ⟨rfl, rfl⟩))
    (fun os started H enc _ => lifted os started H enc)
theorem proved : Rows.FnCmbLookSaid := over
end Go.Proofs.Ytipjcjjjkkaigaa.fnCmbLook

/-
  What it means that a simulator is one, in one sentence: two ways to say it agree; no condition is made.
  What spec.CmbLook gives, in one sentence: the least delay of the first component's sends to the second, but at most the end and one, and -1 for a model that is none or a component that does not exist; for every model that lies in memory.
  What spec.WinLook gives, in one sentence: the least delay of all sends, but at most the end and one, and -1 for a model that is none; for every model that lies in memory.
-/
import Derived.Test.YtklldniapombiaaDLEwev12
import Derived.Test.YtklldniapombiaaDLEwev15
import Derived.Test.YtklldniapombiaaDLEwev18
namespace Go.Proofs.Ytklldniapombiaa
set_option maxRecDepth 100000
open Go.RowKit
/-- Is the event behind the one ahead of it, if there is one? -/
def behind : Option Evt → Evt → Bool
  | none, _ => true
  | some q, e => ltE q e
/-- Are the records in order, behind p, each of them one? -/
def logB (many : Int) : Option Evt → List Rec → Bool
  | _, [] => true
  | p, r :: rs => recB many r && behind p r.ev && logB many (some r.ev) rs
/-- The last one's event. -/
def lastP : Option Evt → List Rec → Option Evt
  | p, [] => p
  | _, r :: rs => lastP (some r.ev) rs
/-- Is what comes next behind the last? -/
def joinB : Option Evt → List Evt → Bool
  | _, [] => true
  | p, e :: _ => behind p e
def riseP : Option Evt → List Evt → Bool
  | none, es => riseB es
  | some q, es => riseB (q :: es)
theorem riseP_cons (p : Option Evt) (e : Evt) (es : List Evt) : riseP p (e :: es) = (behind p e && riseP (some e) es) := by
  cases p with
  | none => simp [riseP, behind]
  | some q => simp [riseP, behind, riseB]
theorem log_join (many : Int) (wait : List Evt) : ∀ (log : List Rec) (p : Option Evt), (riseP p (log.map (·.ev) ++ wait) && log.all (recB many)) = (logB many p log && (riseB wait && joinB (lastP p log) wait))
  | [], p => by
    cases wait with
    | nil => cases p <;> simp [riseP, riseB, logB, joinB]
    | cons e es =>
      rw [List.map_nil, List.nil_append, riseP_cons]; simp only [logB, lastP, joinB, List.all_nil, Bool.and_true, Bool.true_and, riseP]; rw [Bool.and_comm]
  | r :: rs, p => by
    have ih := log_join many wait rs (some r.ev)
    rw [List.map_cons, List.cons_append, riseP_cons, List.all_cons, logB, lastP]
    generalize riseP (some r.ev) (rs.map (·.ev) ++ wait) = a at ih ⊢
    generalize rs.all (recB many) = b at ih ⊢
    generalize logB many (some r.ev) rs = c at ih ⊢
    generalize (riseB wait && joinB (lastP (some r.ev) rs) wait) = d at ih ⊢
    generalize recB many r = x
    generalize behind p r.ev = y
    revert ih
    cases a <;> cases b <;> cases c <;> cases d <;> cases x <;> cases y <;> simp
/-- What spec.SeqOk says. -/
def sqS (m : Mdl) (n nc : Nat) (s : Sq) : Bool :=
  mdlB m && (decide (nc = n) && (riseB s.wait && (s.comps.all cstB && (s.wait.all (takB n m.til) && (logB n none s.log && joinB (lastP none s.log) s.wait)))))
theorem sqS_fit (m : Mdl) (n nc : Nat) (s : Sq) : sqS m n nc s = (mdlB m && fitB n m.til nc s) := by
  have h := log_join n s.wait s.log none
  unfold sqS fitB; rw [show decide ((nc : Int) = (n : Int)) = decide (nc = n) by rw [Bool.eq_iff_iff, decide_eq_true_iff, decide_eq_true_iff]; omega]; rw [riseP] at h
  generalize riseB (s.log.map (·.ev) ++ s.wait) = a at h ⊢
  generalize s.log.all (recB n) = b at h ⊢
  generalize logB n none s.log = c at h ⊢
  generalize riseB s.wait = d at h ⊢
  generalize joinB (lastP none s.log) s.wait = e at h ⊢
  generalize decide (nc = n) = f
  generalize s.comps.all cstB = g
  generalize s.wait.all (takB n m.til) = i
  revert h
  cases mdlB m <;> cases a <;> cases b <;> cases c <;> cases d <;> cases e <;> cases f <;> cases g <;> cases i <;> simp
/-- The event ahead of place k. -/
def prevP (log : List Rec) (k : Nat) : Option Evt := if k = 0 then none else some (log.getD (k - 1) default).ev
theorem prevP_succ (log : List Rec) (k : Nat) : prevP log (k + 1) = some (log.getD k default).ev := by simp [prevP]
theorem logB_drop (many : Int) (log : List Rec) (k : Nat) (p : Option Evt) (h : k < log.length) : logB many p (log.drop k) = (recB many (log.getD k default) && behind p (log.getD k default).ev && logB many (some (log.getD k default).ev) (log.drop (k + 1))) := by
  rw [List.drop_eq_getElem_cons h, logB]; simp [h]
theorem logB_end (many : Int) (log : List Rec) (k : Nat) (p : Option Evt) (h : log.length ≤ k) : logB many p (log.drop k) = true := by
  rw [List.drop_eq_nil_of_le h, logB]
theorem lastP_eq : ∀ (log : List Rec) (p : Option Evt), lastP p log = if log.length = 0 then p else some (log.getD (log.length - 1) default).ev
  | [], p => rfl
  | [r], p => rfl
  | r :: r' :: rs, p => by
    rw [lastP, lastP_eq (r' :: rs)]; simp
theorem RecAt.new (w : World) (r : Rec) (t : TypeId) : RecAt (w.alloc (.cells #[.int .i64 r.ev.t, .int .i64 r.ev.to, .int .i64 r.ev.fr, .int .i64 r.ev.sq, .int .i64 r.ev.kd, .int .i64 r.ev.dt, .int .i64 r.s] t)) w.heap.size 0 r := by
  have c := fun j => cells_new w #[.int .i64 r.ev.t, .int .i64 r.ev.to, .int .i64 r.ev.fr, .int .i64 r.ev.sq, .int .i64 r.ev.kd, .int .i64 r.ev.dt, .int .i64 r.s] t j
  exact ⟨c 0, c 1, c 2, c 3, c 4, c 5, c 6⟩
end Go.Proofs.Ytklldniapombiaa

namespace Go.Proofs.Ytklldniapombiaa
set_option maxRecDepth 100000
open Go.RowKit
set_option maxHeartbeats 4000000 in
theorem l9Look_any (A : Option Addr) (n c : Nat) (B : Option Addr) (k d : Nat) (m : Mdl) (fr to : Int) (w : World) (hM : MdlV w A n B k m) (hm : mdlB m = true) (h0 : 0 ≤ fr) (h1 : fr < m.rules.length) :
    Calls Try.prog 65 #[.agg #[.slice A n c, .slice B k d, .int .i64 m.til], .int .i64 fr, .int .i64 to] w fun x w' => x = .returned (.int .i64 (lkR to (m.til + 1) (m.rules.getD fr.toNat []))) ∧ Up w w' := by
  have few := mdlB_few hm
  have TL := mdlB_til hm
  have hRB := mdlB_row hm fr.toNat (by omega)
  have hLN := hM.rules.1
  obtain ⟨b, off, hA, hb, hc⟩ := hM.rules.2.2 (by omega); subst hA; obtain ⟨A', n', c', cell, hrs⟩ := hc fr.toNat (by omega)
  have HRS := Lib.hid hrs
  have hn3 : n' ≤ 3 := by
    have h := rulesB_len hRB (by omega) (by omega)
    have := hrs.1
    omega
  have TG := Lib.hid (show lkR to (m.til + 1) ((m.rules.getD fr.toNat []).drop 0) = lkR to (m.til + 1) (m.rules.getD fr.toNat []) from rfl)
  have LR := Lib.hid hrs.1
  have CELL := Lib.hid (show w.cell? ⟨b, off + fr.toNat, none⟩ = some (.slice A' n' c') from cell)
  have BLT := Lib.hid hb
  have hfr : fr < n := by omega
  clear hc cell hrs hM few
  generalize m.rules.getD fr.toNat [] = rs at TG LR HRS hRB ⊢
  generalize lkR to (m.til + 1) rs = R at TG ⊢
  clear hm hRB
  generalize m.til = til at *
  obtain ⟨q_, hq_⟩ := Int.eq_ofNat_of_zero_le h0; subst hq_; rw [Int.toNat_natCast] at CELL; clear hLN h1
  have X2 := Lib.hid (Box3.new w (.slice (some ⟨b, off, none⟩) n c) (.slice B k d) (.int .i64 til) 36)
  have U0 := Lib.hid ((Up.refl w).alloc (.cells #[.slice (some ⟨b, off, none⟩) n c, .slice B k d, .int .i64 til] 36))
  have hb' : b < w.heap.size := BLT.out
  have i1 : IntKind.i64.wrap (til + 1) = til + 1 := IntWalk.i64_in _ (by omega)
  have j0 : ¬ (q_ : Int) < 0 := by omega
  obtain ⟨q0, q1, q2⟩ := And.intro X2.out.c0 (And.intro X2.out.c1 X2.out.c2)
  have lt2_ := X2.out.lt
  go_enter Try.func65, Try.ntmps65
  go_wp2; clear q0 q1 q2 lt2_
  have W0 := U0
  go_loopw [7, 8] (fun l i wr => (∃ (q : Nat) (z : Int), q ≤ n' ∧ i = .int .i64 q ∧ l = .int .i64 z ∧ Hid (lkR to z (rs.drop q) = R)) ∧ Up (w.alloc (.cells #[.slice (some ⟨b, off, none⟩) n c, .slice B k d, .int .i64 til] 36)) wr) (fun _ i _ => n' - (intOf i).toNat)
  case atStart => exact ⟨⟨0, til + 1, by omega, rfl, rfl, TG⟩, Up.refl _⟩
  case round =>
    obtain ⟨⟨q, z, hq, rfl, rfl, HT⟩, ur⟩ := hrel; obtain ⟨wo, hwo⟩ : ∃ W, W = wr := ⟨_, rfl⟩; subst hwo
    have UR := Lib.hid (U0.out.trans ur)
    have UR0 := Lib.hid ur
    have x2 := X2.out.up ur
    obtain ⟨q0, q1, q2⟩ := And.intro x2.c0 (And.intro x2.c1 x2.c2)
    have lt2_ := x2.lt
    have X3 := Lib.hid x2
    have cell := (UR.out.cells _ _ BLT.out).trans CELL.out
    have hbr : b < wo.heap.size := by have := UR.out.size; omega
    clear ur x2
    by_cases hlt : q < n'
    · obtain ⟨b2, off2, hA2, hb2, hc2⟩ := (HRS.out.up UR.out).2.2 (by omega)
      subst hA2
      have at2 := hc2 q hlt
      have DR := Lib.hid (lkR_drop to z rs q (by rw [LR.out]; exact hlt))
      clear hc2
      generalize rs.getD q default = r at at2 DR
      obtain ⟨kd, ra, rb, rc, ss⟩ := r; obtain ⟨A3, n3, c3, ⟨r0, r1, r2, r3, r4⟩, hn3', he3⟩ := at2; dsimp only at r0 r1 r2 r3 r4 DR he3
      have HE := Lib.hid he3
      have R4 := Lib.hid r4
      have i4 : (q : Int) < n' := by omega
      have ST := Lib.hid (show lkR to (lkS to z ss) (rs.drop (q + 1)) = R by rw [← HT.out, DR.out])
      have H0 := Lib.hid (show lkS to z (ss.drop 0) = lkS to z ss from rfl)
      generalize lkS to z ss = S at ST H0
      clear he3 HT DR; go_wp2; clear q0 q1 q2 lt2_ r0 r1 r2 r3 r4
      go_loopw [7, 9] (fun l i wj => (∃ (p : Nat) (y : Int), p ≤ n3 ∧ i = .int .i64 p ∧ l = .int .i64 y ∧ Hid (lkS to y (ss.drop p) = S)) ∧ Up wo wj) (fun _ i _ => n3 - (intOf i).toNat)
      case atStart => exact ⟨⟨0, z, by omega, rfl, rfl, H0⟩, Up.refl _⟩
      case round =>
        obtain ⟨⟨p, y, hp, rfl, rfl, HY⟩, uj⟩ := hrel
        have UJ := Lib.hid uj
        have ee := HE.out.up uj
        have x4 := X3.out.up uj
        obtain ⟨q0, q1, q2⟩ := And.intro x4.c0 (And.intro x4.c1 x4.c2)
        have lt2_ := x4.lt
        have cell2 := (uj.cells _ _ hbr).trans cell
        have r4 := (uj.cells _ _ hb2).trans R4.out
        have hbj : b < wr.heap.size := by have := uj.size; omega
        have hb2j : b2 < wr.heap.size := by have := uj.size; omega
        clear uj x4
        by_cases hlp : p < n3
        · obtain ⟨b3, off3, hA3, hb3, hc3⟩ := ee.2 (by omega)
          subst hA3
          have a0 := hc3 p hlp
          have DR := Lib.hid (lkS_drop to y ss p (by rw [ee.1]; exact hlp))
          clear hc3 ee
          generalize ss.getD p default = e at a0 DR
          obtain ⟨et, eto, efr, esq, ekd, edt⟩ := e; unfold EvAt at a0; dsimp only at a0 DR; obtain ⟨p0, p1, p2, p3, p4, p5⟩ := a0
          have i5 : (p : Int) < n3 := by omega
          have i6 : IntKind.i64.wrap ((p : Int) + 1) = (p : Int) + 1 := IntWalk.i64_in _ (by omega)
          have UX := Lib.hid (UJ.out.alloc (.cells #[.int .i64 et, .int .i64 eto, .int .i64 efr, .int .i64 esq, .int .i64 ekd, .int .i64 edt] 168))
          by_cases hto : et = to
          · have HZ := Lib.hid (show lkS to (min y eto) (ss.drop (p + 1)) = S by rw [← HY.out, DR.out, if_pos hto])
            subst hto
            by_cases hmin : y ≤ eto
            · rw [show min y eto = y by omega] at HZ
              go_wp2
              go_roundw
              case rel => exact ⟨⟨p + 1, y, by omega, by go_num, rfl, HZ⟩, UX.out⟩
              case measure => simp [intOf]; omega
            · rw [show min y eto = eto by omega] at HZ
              go_wp2
              go_roundw
              case rel => exact ⟨⟨p + 1, eto, by omega, by go_num, by rw [if_pos (by omega)], HZ⟩, UX.out⟩
              case measure => simp [intOf]; omega
          · have HZ := Lib.hid (show lkS to y (ss.drop (p + 1)) = S by rw [← HY.out, DR.out, if_neg hto])
            go_wp2
            go_roundw
            case rel => exact ⟨⟨p + 1, y, by omega, by go_num, rfl, HZ⟩, UX.out⟩
            case measure => simp [intOf]; omega
        · have EN := lkS_end to y ss p (by rw [ee.1]; omega)
          rw [HY.out] at EN; subst EN
          have i5 : ¬ (p : Int) < n3 := by omega
          have i6 : IntKind.i64.wrap ((q : Int) + 1) = (q : Int) + 1 := IntWalk.i64_in _ (by omega)
          go_wp2
          go_roundw
          case rel => exact ⟨⟨q + 1, S, by omega, by go_num, rfl, ST⟩, UR0.out.trans UJ.out⟩
          case measure => simp [intOf]; omega
    · have EN := lkR_end to z rs q (by rw [LR.out]; omega)
      rw [HT.out] at EN; subst EN
      have i4 : ¬ (q : Int) < n' := by omega
      go_wp2; go_ret
      exact ⟨rfl, UR.out⟩
end Go.Proofs.Ytklldniapombiaa

namespace Go.Proofs.Ytklldniapombiaa
set_option maxRecDepth 100000
open Go.RowKit
set_option maxHeartbeats 4000000 in
theorem specWin_any (A : Option Addr) (n c : Nat) (B : Option Addr) (k d : Nat) (m : Mdl) (w : World) (h : MdlV w A n B k m) :
    Calls Try.prog 19 #[.agg #[.slice A n c, .slice B k d, .int .i64 m.til]] w fun x w' => x = .returned (.int .i64 (winV m)) ∧ Up w w' := by
  have CM := Lib.hid (fun W (u : Up w W) => specMdl_any A n c B k d m W (h.up u))
  have CK := Lib.hid (fun W (u : Up w W) (fr to : Nat) hm (h1 : fr < m.rules.length) => show Calls Try.prog 65 #[.agg #[.slice A n c, .slice B k d, .int .i64 m.til], .int .i64 fr, .int .i64 to] W (fun x w' => x = .returned (.int .i64 (lkM m fr to)) ∧ Up W w') from l9Look_any A n c B k d m fr to W (h.up u) hm (by omega) (by omega))
  have FEW := Lib.hid (fun hm => mdlB_few (m := m) hm)
  have TIL := Lib.hid (fun hm => mdlB_til (m := m) hm)
  have NL := Lib.hid h.rules.1
  have X2 := Lib.hid (Box3.new w (.slice A n c) (.slice B k d) (.int .i64 m.til) 36)
  have U0 := Lib.hid ((Up.refl w).alloc (.cells #[.slice A n c, .slice B k d, .int .i64 m.til] 36))
  have LV := Lib.hid (show winV m = if mdlB m then wiV (lkM m) m.rules.length m.rules.length 0 (m.til + 1) else -1 from rfl)
  rw [NL.out] at CK FEW LV; clear h NL
  generalize mdlB m = bm at CM CK FEW LV TIL
  generalize lkM m = g at CK LV
  generalize winV m = Z at LV ⊢
  generalize m.til = til at *
  go_enter Try.func19, Try.ntmps19
  go_wp2_with fail
  refine (CM.out _ U0.out).mono ?_; rintro x w1 ⟨rfl, u1⟩
  have U1 := Lib.hid (U0.out.trans u1)
  have X2 := Lib.hid (X2.out.up u1)
  clear u1 CM U0
  cases bm
  · go_wp2
    go_ret
    exact ⟨congrArg (fun z => Ending.returned (.int .i64 z)) LV.out.symm, U1.out⟩
  · have few := FEW.out rfl
    have TL := TIL.out rfl
    have i1 : IntKind.i64.wrap (til + 1) = til + 1 := IntWalk.i64_in _ (by omega)
    have TG := Lib.hid (show wiV g n (n - 0) 0 (til + 1) = Z from LV.out.symm)
    obtain ⟨q0, q1, q2⟩ := And.intro X2.out.c0 (And.intro X2.out.c1 X2.out.c2)
    have lt2_ := X2.out.lt
    go_wp2; clear q0 q1 q2 lt2_
    go_loopw [3, 4] (fun l i wr => (∃ (q : Nat) (z : Int), q ≤ n ∧ i = .int .i64 q ∧ l = .int .i64 z ∧ Hid (wiV g n (n - q) q z = Z)) ∧ Up w1 wr) (fun _ i _ => n - (intOf i).toNat)
    case atStart => exact ⟨⟨0, til + 1, by omega, rfl, rfl, TG⟩, Up.refl _⟩
    case round =>
      obtain ⟨⟨q, z, hq, rfl, rfl, HT⟩, ur⟩ := hrel; obtain ⟨wo, hwo⟩ : ∃ W, W = wr := ⟨_, rfl⟩; subst hwo
      have UR := Lib.hid ur
      have X3 := Lib.hid (X2.out.up ur)
      clear ur; obtain ⟨q0, q1, q2⟩ := And.intro X3.out.c0 (And.intro X3.out.c1 X3.out.c2)
      have lt2_ := X3.out.lt
      by_cases hlt : q < n
      · have i4 : (q : Int) < n := by omega
        have ST := Lib.hid (show wiV g n (n - (q + 1)) (q + 1) (wjV g q n 0 z) = Z by rw [← HT.out, wiV_at hlt])
        obtain ⟨S, hS⟩ : ∃ S, S = wjV g q n 0 z := ⟨_, rfl⟩; rw [← hS] at ST
        have H0 := Lib.hid (show wjV g q (n - 0) 0 z = S from hS.symm)
        clear hS; clear HT; go_wp2; clear q0 q1 q2 lt2_
        go_loopw [3, 5] (fun l i wj => (∃ (p : Nat) (y : Int), p ≤ n ∧ i = .int .i64 p ∧ l = .int .i64 y ∧ Hid (wjV g q (n - p) p y = S)) ∧ Up wo wj) (fun _ i _ => n - (intOf i).toNat)
        case atStart => exact ⟨⟨0, z, by omega, rfl, rfl, H0⟩, Up.refl _⟩
        case round =>
          obtain ⟨⟨p, y, hp, rfl, rfl, HY⟩, uj⟩ := hrel
          have UJ := Lib.hid uj
          have x4 := X3.out.up uj
          clear uj; obtain ⟨q0, q1, q2⟩ := And.intro x4.c0 (And.intro x4.c1 x4.c2)
          have lt2_ := x4.lt
          by_cases hlp : p < n
          · have i5 : (p : Int) < n := by omega
            have i6 : IntKind.i64.wrap ((p : Int) + 1) = (p : Int) + 1 := IntWalk.i64_in _ (by omega)
            have C := Lib.hid (fun W (u : Up w W) => CK.out W u q p trivial hlt)
            have HZ := Lib.hid (show wjV g q (n - (p + 1)) (p + 1) (min y (g q p)) = S by rw [← HY.out, wjV_at hlp])
            generalize g q p = e at C HZ
            clear HY CK
            go_wp2_with fail
            refine (C.out _ ((U1.out.trans UR.out).trans UJ.out)).mono ?_; rintro x w5 ⟨rfl, u5⟩
            have UX := Lib.hid (UJ.out.trans u5)
            clear q0 q1 q2 lt2_ x4 u5 C
            by_cases hmin : y ≤ e
            · rw [show min y e = y by omega] at HZ
              go_wp2
              go_roundw
              case rel => exact ⟨⟨p + 1, y, by omega, by go_num, rfl, HZ⟩, UX.out⟩
              case measure => simp [intOf]; omega
            · rw [show min y e = e by omega] at HZ
              go_wp2
              go_roundw
              case rel => exact ⟨⟨p + 1, e, by omega, by go_num, by first | rfl | rw [if_pos (by omega)], HZ⟩, UX.out⟩
              case measure => simp [intOf]; omega
          · have EN := HY.out
            rw [wjV_end (by omega)] at EN; subst EN
            have i5 : ¬ (p : Int) < n := by omega
            have i6 : IntKind.i64.wrap ((q : Int) + 1) = (q : Int) + 1 := IntWalk.i64_in _ (by omega)
            go_wp2
            go_roundw
            case rel => exact ⟨⟨q + 1, y, by omega, by go_num, rfl, ST⟩, UR.out.trans UJ.out⟩
            case measure => simp [intOf]; omega
      · have EN := HT.out
        rw [wiV_end (by omega)] at EN; subst EN
        have i4 : ¬ (q : Int) < n := by omega
        go_wp2; go_ret
        exact ⟨rfl, U1.out.trans UR.out⟩
end Go.Proofs.Ytklldniapombiaa

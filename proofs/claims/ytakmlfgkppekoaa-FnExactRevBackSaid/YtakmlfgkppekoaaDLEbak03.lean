/-
  A region that draws its order and whose callees make new blocks, in one sentence: one walk in the order of the text serves every order, where each operation yields one value in every grown world.
  What toEvtEvtS returns, in one sentence: a new slice of the same events; for every list that lies in memory.
  What toMdlSendS returns, in one sentence: a new slice of the same sends; for every list that lies in memory.
  What impl.ruleOk returns, in one sentence: the bool that the bounds of the rule and of what it sends give; for every rule that lies in memory.
  What impl.rulesOk returns, in one sentence: whether each component's rules are in order and each is a rule; for every model that lies in memory.
  What toMdlRule returns, in one sentence: the same rule over a new slice of its sends; for every rule that lies in memory.
  The first rule of a kind and where it stands, in one sentence: defined over lists; no condition is made.
  What spec.l2Rule returns, in one sentence: the first rule of the kind and true, or the zero rule and false; for every list of rules that lies in memory.
-/
import Derived.Test.YtakmlfgkppekoaaDLEbak01
import Derived.Test.YtakmlfgkppekoaaDLEbak02
namespace Go.Proofs.Ytakmlfgkppekoaa
set_option maxRecDepth 100000
open Go.RowKit
theorem region_up {P : Program} {id : Nat} {Q : Exit → Act → World → Prop} {a : Act} {w : World} {l : List Oper} (hm : P.follows .mixedOrders = true) (hB : Region.lexB .any l.toArray = true)
    (h : wpQuiet P l.toArray (Up w) (fun a' => ∀ w', Up w w' → Q .normal a' w') l a) : (Code.region id l.toArray true).wp P Q a w :=
  wp_region_quiet (C := Up w) hm hB (show Up w w.drew from (Up.refl w).drew) (by simpa using h)
/-- One operation: one value, in every grown world. -/
theorem up_step {P : Program} {ops : Array Oper} {w : World} {Q : Act → Prop} {a : Act} {o : Oper} {rest : List Oper} (hg : o.guard = none)
    (h : ∃ v, (∀ w1, Up w w1 → Oper.quietUpon P (Up w) w1 v ((execOp a.eval o).run P w1)) ∧ wpQuiet P ops (Up w) Q rest (a.put o.dst v)) : wpQuiet P ops (Up w) Q (o :: rest) a :=
  wpQuiet_step fun K hK => by
    have hw : Region.wanted o (yielded ops a.tmps) = true := by simp [Region.wanted, hg]
    rw [if_pos hw]; obtain ⟨v, hq, hk⟩ := h
    exact ⟨v, hq, hK _ hk⟩
theorem up_call {P : Program} {f : FuncId} {args : Array Value} {w w1 : World} {v : Value} (hw : Up w w1)
    (h : Calls P f args w1 fun e w' => e = .returned v ∧ Up w1 w') : Calls P f args w1 fun e w'' => e = .returned v ∧ Up w w'' :=
  h.mono fun _ _ ⟨he, u⟩ => ⟨he, hw.trans u⟩
end Go.Proofs.Ytakmlfgkppekoaa

namespace Go.Proofs.Ytakmlfgkppekoaa
set_option maxRecDepth 100000
open Go.RowKit
theorem info45 : (Try.prog.info? 45).map (fun i => (i.zero, i.size, i.bytes)) = some (some (.agg #[.int .i64 0, .int .i64 0, .int .i64 0, .int .i64 0, .int .i64 0, .int .i64 0]), 6, 48) := by kernel_rfl
theorem run_make_rowN {P : Program} (t e : TypeId) (i : TypeInfo) (z : Value) (ht : P.underlying t = some (.slice e)) (hi : P.info? e = some i) (hz : i.zero = some z)
    (kl kc : IntKind) (n c : Nat) (hnc : n ≤ c) (hbytes : i.bytes * c ≤ 281474976710656) (h63 : c ≤ 9223372036854775807) (w : World) :
    (Instr.makeSlice t (.int kl (n : Int)) (.int kc (c : Int))).run P w = .ok (.slice (some ⟨w.heap.size, 0, none⟩) n c) (w.alloc (.cells (madeCells z.cells (c * i.size)) e)) := by
  have hb : (i.bytes : Int) * (c : Int) ≤ 281474976710656 := by
    have h : ((i.bytes * c : Nat) : Int) ≤ 281474976710656 := by omega
    rwa [Int.natCast_mul] at h
  have hr := run_make (P := P) w t e i z ht hi hz kl kc n c (by omega) (by omega) hb (by omega)
  simp only [Int.toNat_natCast] at hr
  exact hr
set_option maxHeartbeats 1000000 in
theorem toS_any (A : Option Addr) (n cap : Nat) (es : List Evt) (w : World) (hn : n ≤ 1000000000) (hE : Evs w A n es) :
    Calls Try.prog 30 #[.slice A n cap] w (NewEvs es n w) := by
  obtain ⟨i0, hi, hz0, hz1, hz2⟩ := info_parts info45
  have hmk := fun W => run_make_rowN (P := Try.prog) 31 45 i0 _ Try.underlying31 hi hz0 .i64 .i64 n n (Nat.le_refl _) (by rw [hz2]; omega) (by omega) W
  rw [hz1] at hmk
  have HE := Lib.hid hE
  have LE := Lib.hid hE.1
  have CL := Lib.hid (fun a W => toEvt_any a W)
  clear hE hi hz0 hz1 hz2
  go_enter Try.func30, Try.ntmps30
  go_wp2
  generalize hg : w.heap.size = g
  have HG := Lib.hid (Nat.le_of_eq hg)
  go_loopw [4] (fun i wr => (∃ k : Nat, k ≤ n ∧ i = .int .i64 k ∧ Part wr g n k es) ∧ Up w wr) (fun i _ => n - (intOf i).toNat)
  case atStart =>
    refine ⟨⟨0, by omega, rfl, ?_⟩, (Up.refl _).alloc _⟩; subst hg
    exact Part.start w n es
  case round =>
    obtain ⟨⟨k, hk, rfl, hp⟩, ur⟩ := hrel
    by_cases hlt : k < n
    · obtain ⟨b, off, hA, hb, hc⟩ := HE.out.2 (by omega)
      subst hA
      have a0 := (hc k hlt).up ur hb
      have hb' : b < wr.heap.size := by have := ur.size; omega
      clear hc
      have cl := CL.out (es.getD k default)
      have HP := Lib.hid hp
      clear hp
      generalize hpk : es.getD k default = p at a0 cl
      obtain ⟨pt, pto, pfr, psq, pkd, pdt⟩ := p
      have HE' := Lib.hid hpk
      clear hpk; unfold EvAt at a0; unfold Evt.v at cl; dsimp only at a0 cl; obtain ⟨p0, p1, p2, p3, p4, p5⟩ := a0
      have C := Lib.hid cl
      clear cl
      have i4 : (k : Int) < n := by omega
      go_wp2_with fail
      refine (C.out _).mono ?_; rintro x wA ⟨rfl, uA⟩
      have P := HP.out.up uA
      obtain ⟨⟨v0, c0⟩, f0⟩ := P.2.2 (k * 6) (by omega); obtain ⟨⟨v1, c1⟩, f1⟩ := P.2.2 (k * 6 + 1) (by omega); obtain ⟨⟨v2, c2⟩, f2⟩ := P.2.2 (k * 6 + 2) (by omega); obtain ⟨⟨v3, c3⟩, f3⟩ := P.2.2 (k * 6 + 3) (by omega); obtain ⟨⟨v4, c4⟩, f4⟩ := P.2.2 (k * 6 + 4) (by omega); obtain ⟨⟨v5, c5⟩, f5⟩ := P.2.2 (k * 6 + 5) (by omega)
      have HP2 := Lib.hid P
      clear P p0 p1 p2 p3 p4 p5; go_wp2
      go_roundw
      case rel =>
        have hq := HP2.out.put HE'.out hlt
        have hu := (ur.trans uA).putEv (b := g) (o := k * 6) (e := ⟨pt, pto, pfr, psq, pkd, pdt⟩) HG.out
        unfold putEv at hq hu
        exact ⟨⟨k + 1, by omega, by go_num, hq⟩, hu⟩
      case measure => simp [intOf]; omega
    · have HP := Lib.hid hp
      clear hp; go_wp2; go_ret
      exact ⟨g, rfl, by omega, HP.out.own LE.out (by omega), ur⟩
end Go.Proofs.Ytakmlfgkppekoaa

namespace Go.Proofs.Ytakmlfgkppekoaa
set_option maxRecDepth 100000
open Go.RowKit
theorem info140 : (Try.prog.info? 140).map (fun i => (i.zero, i.size, i.bytes)) = some (some (.agg #[.int .i64 0, .int .i64 0, .int .i64 0, .int .i64 0, .int .i64 0, .int .i64 0]), 6, 48) := by kernel_rfl
set_option maxHeartbeats 1000000 in
theorem toSndS_any (A : Option Addr) (n cap : Nat) (es : List Evt) (w : World) (hn : n ≤ 1000000000) (hE : Evs w A n es) :
    Calls Try.prog 153 #[.slice A n cap] w (NewEvs es n w) := by
  obtain ⟨i0, hi, hz0, hz1, hz2⟩ := info_parts info140
  have hmk := fun W => run_make_rowN (P := Try.prog) 61 140 i0 _ Try.underlying61 hi hz0 .i64 .i64 n n (Nat.le_refl _) (by rw [hz2]; omega) (by omega) W
  rw [hz1] at hmk
  have HE := Lib.hid hE
  have LE := Lib.hid hE.1
  have CL := Lib.hid (fun a W => toSnd_any a W)
  clear hE hi hz0 hz1 hz2
  go_enter Try.func153, Try.ntmps153
  go_wp2
  generalize hg : w.heap.size = g
  have HG := Lib.hid (Nat.le_of_eq hg)
  go_loopw [4] (fun i wr => (∃ k : Nat, k ≤ n ∧ i = .int .i64 k ∧ Part wr g n k es) ∧ Up w wr) (fun i _ => n - (intOf i).toNat)
  case atStart =>
    refine ⟨⟨0, by omega, rfl, ?_⟩, (Up.refl _).alloc _⟩; subst hg
    exact Part.begin w n _ es
  case round =>
    obtain ⟨⟨k, hk, rfl, hp⟩, ur⟩ := hrel
    by_cases hlt : k < n
    · obtain ⟨b, off, hA, hb, hc⟩ := HE.out.2 (by omega)
      subst hA
      have a0 := (hc k hlt).up ur hb
      have hb' : b < wr.heap.size := by have := ur.size; omega
      clear hc
      have cl := CL.out (es.getD k default)
      have HP := Lib.hid hp
      clear hp
      generalize hpk : es.getD k default = p at a0 cl
      obtain ⟨pt, pto, pfr, psq, pkd, pdt⟩ := p
      have HE' := Lib.hid hpk
      clear hpk; unfold EvAt at a0; unfold Evt.v at cl; dsimp only at a0 cl; obtain ⟨p0, p1, p2, p3, p4, p5⟩ := a0
      have C := Lib.hid cl
      clear cl
      have i4 : (k : Int) < n := by omega
      go_wp2_with fail
      refine (C.out _).mono ?_; rintro x wA ⟨rfl, uA⟩
      have P := HP.out.up uA
      obtain ⟨⟨v0, c0⟩, f0⟩ := P.2.2 (k * 6) (by omega); obtain ⟨⟨v1, c1⟩, f1⟩ := P.2.2 (k * 6 + 1) (by omega); obtain ⟨⟨v2, c2⟩, f2⟩ := P.2.2 (k * 6 + 2) (by omega); obtain ⟨⟨v3, c3⟩, f3⟩ := P.2.2 (k * 6 + 3) (by omega); obtain ⟨⟨v4, c4⟩, f4⟩ := P.2.2 (k * 6 + 4) (by omega); obtain ⟨⟨v5, c5⟩, f5⟩ := P.2.2 (k * 6 + 5) (by omega)
      have HP2 := Lib.hid P
      clear P p0 p1 p2 p3 p4 p5; go_wp2
      go_roundw
      case rel =>
        have hq := HP2.out.put HE'.out hlt
        have hu := (ur.trans uA).putEv (b := g) (o := k * 6) (e := ⟨pt, pto, pfr, psq, pkd, pdt⟩) HG.out
        unfold putEv at hq hu
        exact ⟨⟨k + 1, by omega, by go_num, hq⟩, hu⟩
      case measure => simp [intOf]; omega
    · have HP := Lib.hid hp
      clear hp; go_wp2; go_ret
      exact ⟨g, rfl, by omega, HP.out.own LE.out (by omega), ur⟩
end Go.Proofs.Ytakmlfgkppekoaa

namespace Go.Proofs.Ytakmlfgkppekoaa
set_option maxRecDepth 100000
open Go.RowKit
set_option maxHeartbeats 4000000 in
theorem implRule_any (r : Rule) (A : Option Addr) (n c : Nat) (many : Int) (hm1 : 1 ≤ many) (hm2 : many ≤ 4) (w : World) (hn : n ≤ 9223372036854775807) (hE : Evs w A n r.sends) :
    Calls Try.prog 137 #[r.v (.slice A n c), .int .i64 many] w fun x w' => x = .returned (.bool (ruleB r many)) ∧ Up w w' := by
  obtain ⟨kd, ra, rb, rc, es⟩ := r
  have AD := Lib.hid (fun k h => all_drop (f := fun e => sndB e many) (d := default) es k h)
  have AE := Lib.hid (fun k h => all_end (f := fun e => sndB e many) es k h)
  have HE := Lib.hid hE
  have LE := Lib.hid hE.1
  have CL := Lib.hid (fun e W => implSnd_any e many hm1 hm2 W)
  have RB := Lib.hid (show ruleB ⟨kd, ra, rb, rc, es⟩ many = (es.all (fun e => sndB e many) && decide ((n : Int) ≤ 2) && inB kd 0 2 && inB ra 0 96 && inB rb 0 96 && inB rc 0 96) by rw [← hE.1]; rfl)
  have H0 := Lib.hid (show (es.drop 0).all (fun e => sndB e many) = es.all (fun e => sndB e many) from rfl)
  generalize ruleB ⟨kd, ra, rb, rc, es⟩ many = res at RB ⊢
  generalize es.all (fun e => sndB e many) = al at RB H0
  clear hE; unfold Rule.v; dsimp only
  go_enter Try.func137, Try.ntmps137
  go_wp2
  go_loopw [10] (fun i wr => (∃ k : Nat, k ≤ n ∧ i = .int .i64 k ∧ Hid ((es.drop k).all (fun e => sndB e many) = al)) ∧ Up (w.alloc (.cells #[.int .i64 kd, .int .i64 ra, .int .i64 rb, .int .i64 rc, .slice A n c] 63)) wr) (fun i _ => n - (intOf i).toNat)
  case atStart => exact ⟨⟨0, by omega, rfl, H0⟩, Up.refl _⟩
  case round =>
    obtain ⟨⟨k, hk, rfl, HA⟩, ur⟩ := hrel
    have hw : Up w wr := ((Up.refl w).alloc _).trans ur
    by_cases hlt : k < n
    · obtain ⟨b, off, hA, hb, hc⟩ := HE.out.2 (by omega)
      subst hA
      have a0 := (hc k hlt).up hw hb
      have hb' : b < wr.heap.size := by have := hw.size; omega
      clear hc
      have S := AD.out k (by rw [LE.out]; exact hlt)
      rw [HA.out] at S
      have cl := CL.out (es.getD k default)
      generalize es.getD k default = e at a0 S cl
      generalize sndB e many = s at S cl
      obtain ⟨et, eto, efr, esq, ekd, edt⟩ := e; unfold EvAt at a0; unfold Evt.v at cl; dsimp only at a0 cl; obtain ⟨p0, p1, p2, p3, p4, p5⟩ := a0
      have C := Lib.hid cl
      have S' := Lib.hid S
      have UR := Lib.hid ur
      clear cl S hw ur
      have i4 : (k : Int) < n := by omega
      have i5 : IntKind.i64.wrap ((k : Int) + 1) = (k : Int) + 1 := IntWalk.i64_in _ (by omega)
      go_wp2_with fail
      refine (C.out _).mono ?_; rintro x w2 ⟨rfl, u2⟩
      have U2 := Lib.hid ((UR.out.alloc _).trans u2)
      clear u2
      cases s
      · go_wp2
        go_ret
        exact ⟨ret_bool (by rw [RB.out, S'.out]; rfl), ((Up.refl w).alloc _).trans U2.out⟩
      · go_wp2
        go_roundw
        case rel => exact ⟨⟨k + 1, by omega, by first | rfl | go_num, Lib.hid (by rw [S'.out, Bool.true_and])⟩, U2.out⟩
        case measure => (simp [intOf]; try omega)
    · have hal : al = true := HA.out.symm.trans (AE.out k (by rw [LE.out]; omega))
      have RB2 := Lib.hid (hal ▸ RB.out)
      have HW := Lib.hid hw
      obtain ⟨hc, hf, hz⟩ := ur.facts; simp at hz; clear hw hal RB HA AD AE CL HE LE H0
      have i4 : ¬ (k : Int) < n := by omega
      go_wp2_with (go_at_call 65; refine (within_any _ _ _ _).mono ?_; rintro e w' ⟨rfl, rfl⟩)
      all_goals go_ret
      all_goals exact ⟨ret_bool (by rw [RB2.out]; first | (simp [*]; done) | (simp [*]; intros; omega)), HW.out⟩
end Go.Proofs.Ytakmlfgkppekoaa

namespace Go.Proofs.Ytakmlfgkppekoaa
set_option maxRecDepth 100000
open Go.RowKit
/-- The cells of a model's own block. -/
structure Box3 (w : World) (b : Nat) (x y z : Value) : Prop where
  lt : b < w.heap.size
  c0 : w.cell? ⟨b, 0, none⟩ = some x
  c1 : w.cell? ⟨b, 1, none⟩ = some y
  c2 : w.cell? ⟨b, 2, none⟩ = some z
theorem Box3.new (w : World) (x y z : Value) (t : TypeId) : Box3 (w.alloc (.cells #[x, y, z] t)) w.heap.size x y z := by
  have hh := heap_alloc_new w (.cells #[x, y, z] t)
  exact ⟨by simp, by rw [cell_of_row _ _ 0 _ _ _ hh]; rfl, by rw [cell_of_row _ _ 1 _ _ _ hh]; rfl, by rw [cell_of_row _ _ 2 _ _ _ hh]; rfl⟩
theorem Box3.up {w w' : World} {b : Nat} {x y z : Value} (h : Box3 w b x y z) (u : Up w w') : Box3 w' b x y z :=
  ⟨Nat.lt_of_lt_of_le h.lt u.size, (u.cells _ _ h.lt).trans h.c0, (u.cells _ _ h.lt).trans h.c1, (u.cells _ _ h.lt).trans h.c2⟩
set_option maxHeartbeats 8000000 in
theorem implRules_any (A : Option Addr) (n c : Nat) (B : Option Addr) (k d : Nat) (til : Int) (rss : List (List Rule)) (hm1 : (1 : Int) ≤ n) (hm2 : (n : Int) ≤ 4) (w : World) (hR : Rulz w A n rss) :
    Calls Try.prog 105 #[.agg #[.slice A n c, .slice B k d, .int .i64 til]] w fun x w' => x = .returned (.bool (rss.all (rulesB n (-1)))) ∧ Up w w' := by
  have AD := Lib.hid (fun i h => all_drop (f := rulesB n (-1)) (d := []) rss i h)
  have AE := Lib.hid (fun i h => all_end (f := rulesB n (-1)) rss i h)
  have RD := Lib.hid (fun bf rs i h => rulesB_drop n bf rs i h)
  have RE := Lib.hid (fun bf rs i h => rulesB_end n bf rs i h)
  have HR := Lib.hid hR
  have LR := Lib.hid hR.1
  have CL := Lib.hid (fun r A' n' c' W hn hE => implRule_any r A' n' c' n hm1 hm2 W hn hE)
  have H0 := Lib.hid (show (rss.drop 0).all (rulesB n (-1)) = rss.all (rulesB n (-1)) from rfl)
  generalize rss.all (rulesB n (-1)) = al at H0 ⊢
  have B0 := Lib.hid (Box3.new w (.slice A n c) (.slice B k d) (.int .i64 til) 33)
  clear hR
  go_enter Try.func105, Try.ntmps105
  go_wp2
  go_loopw [11] (fun i wr => (∃ q : Nat, q ≤ n ∧ i = .int .i64 q ∧ Hid ((rss.drop q).all (rulesB n (-1)) = al)) ∧ Up (w.alloc (.cells #[.slice A n c, .slice B k d, .int .i64 til] 33)) wr) (fun i _ => n - (intOf i).toNat)
  case atStart => exact ⟨⟨0, by omega, rfl, H0⟩, Up.refl _⟩
  case round =>
    obtain ⟨⟨q, hq, rfl, HA⟩, ur⟩ := hrel; obtain ⟨wo, hwo⟩ : ∃ W, W = wr := ⟨_, rfl⟩; subst hwo
    have hw : Up w wo := ((Up.refl w).alloc _).trans ur
    by_cases hlt : q < n
    · obtain ⟨b, off, hA, hb, hc⟩ := HR.out.2.2 (by omega)
      subst hA; obtain ⟨A', n', c', hcell, hrs⟩ := hc q hlt
      have cell := (hw.cells _ _ hb).trans hcell
      have HS := Lib.hid (hrs.up hw)
      have hn' : n' ≤ 9223372036854775807 := hrs.2.1
      have hb' : b < wo.heap.size := by have := hw.size; omega
      have S := AD.out q (by rw [LR.out]; exact hlt)
      rw [HA.out] at S; clear hc hcell hrs
      generalize rss.getD q [] = rs at HS S
      have S' := Lib.hid S
      have LS := Lib.hid HS.out.1
      have UR := Lib.hid ur
      have H1 := Lib.hid (show rulesB n (-1) (rs.drop 0) = rulesB n (-1) rs from rfl)
      generalize rulesB n (-1) rs = ok at S' H1
      clear S ur hw
      have i4 : (q : Int) < n := by omega
      have i5 : IntKind.i64.wrap ((q : Int) + 1) = (q : Int) + 1 := IntWalk.i64_in _ (by omega)
      go_wp2_with fail
      go_loopw [5, 17] (fun f j wj => (∃ (bf : Int) (p : Nat), p ≤ n' ∧ f = .int .i64 bf ∧ j = .int .i64 p ∧ Hid (rulesB n bf (rs.drop p) = ok)) ∧ Up wo wj) (fun _ j _ => n' - (intOf j).toNat)
      case atStart => exact ⟨⟨-1, 0, by omega, rfl, rfl, H1⟩, Up.refl _⟩
      case round =>
        obtain ⟨⟨bf, p, hp, rfl, rfl, HB⟩, uj⟩ := hrel
        have bx := B0.out.up (UR.out.trans uj)
        obtain ⟨q0, q1, q2⟩ := And.intro bx.c0 (And.intro bx.c1 bx.c2)
        have qlt := bx.lt
        have hbx : w.heap.size < wo.heap.size := (B0.out.up UR.out).lt
        clear bx
        by_cases hlp : p < n'
        · obtain ⟨b2, off2, hA2, hb2, hc2⟩ := HS.out.2.2 (by omega)
          subst hA2
          have at2 := (hc2 p hlp).up uj hb2
          have hb2' : b2 < wr.heap.size := by have := uj.size; omega
          clear hc2
          have T := RD.out bf rs p (by rw [LS.out]; exact hlp)
          rw [HB.out] at T
          have cl := fun A' n' c' W => CL.out (rs.getD p default) A' n' c' W
          generalize rs.getD p default = r at at2 T cl
          obtain ⟨A3, n3, c3, ⟨r0, r1, r2, r3, r4⟩, hn3, he3⟩ := at2
          have E3 := Lib.hid he3
          obtain ⟨kd, ra, rb, rc, es⟩ := r
          generalize ruleB ⟨kd, ra, rb, rc, es⟩ n = s at T cl
          unfold Rule.v at cl; dsimp only at cl r0 r1 r2 r3 r4 T
          have C := Lib.hid (cl A3 n3 c3)
          have T' := Lib.hid T
          have UJ := Lib.hid uj
          have hsz : wo.heap.size ≤ wr.heap.size := uj.size
          clear T cl he3 uj
          have i6 : (p : Int) < n' := by omega
          have i7 : IntKind.i64.wrap ((p : Int) + 1) = (p : Int) + 1 := IntWalk.i64_in _ (by omega)
          by_cases hkd : kd ≤ bf
          · have hok : ok = false := by rw [T'.out, decide_eq_false (by omega)]; rfl
            go_wp2; go_ret
            exact ⟨ret_bool (by rw [S'.out, hok]; rfl), ((((Up.refl w).alloc _).trans UR.out).trans UJ.out).alloc _⟩
          · have hd : decide (bf < kd) = true := decide_eq_true (by omega)
            have NX := Lib.hid (show wr.heap.size ≠ w.heap.size by omega)
            go_wp2_with fail
            refine (C.out _ hn3 (E3.out.up ((Up.refl _).alloc _))).mono ?_; rintro x w2 ⟨rfl, u2⟩
            have U2 := Lib.hid ((UJ.out.alloc _).trans u2)
            obtain ⟨hc, hf, hz⟩ := u2.facts; simp at hz
            cases s
            · have hok : ok = false := by rw [T'.out, hd]; rfl
              go_wp2; go_ret
              exact ⟨ret_bool (by rw [S'.out, hok]; rfl), (((Up.refl w).alloc _).trans UR.out).trans U2.out⟩
            · have TT := Lib.hid (show rulesB n kd (rs.drop (p + 1)) = ok by rw [T'.out, hd]; rfl)
              go_wp2
              go_roundw
              case rel => exact ⟨⟨kd, p + 1, by omega, rfl, by first | rfl | go_num, TT⟩, U2.out⟩
              case measure => (simp [intOf]; try omega)
        · have hok : ok = true := HB.out.symm.trans (RE.out bf rs p (by rw [LS.out]; omega))
          have i6 : ¬ (p : Int) < n' := by omega
          have UJ := Lib.hid uj
          clear uj; go_wp2
          go_roundw
          case rel => exact ⟨⟨q + 1, by omega, by first | rfl | go_num, Lib.hid (by rw [S'.out, hok, Bool.true_and])⟩, UR.out.trans UJ.out⟩
          case measure => (simp [intOf]; try omega)
    · have hal : al = true := HA.out.symm.trans (AE.out q (by rw [LR.out]; omega))
      have HW := Lib.hid hw
      have i4 : ¬ (q : Int) < n := by omega
      clear hw ur; go_wp2; go_ret
      exact ⟨ret_bool (by first | exact hal.symm | rfl), HW.out⟩
end Go.Proofs.Ytakmlfgkppekoaa

namespace Go.Proofs.Ytakmlfgkppekoaa
set_option maxRecDepth 100000
open Go.RowKit
theorem EvAt.setFar {w : World} {b o : Nat} {e : Evt} (h : EvAt w b o e) {p : Addr} (hp : p.block ≠ b) (u : Value) : EvAt (w.setCell p u) b o e := by
  have f : ∀ j, (w.setCell p u).cell? ⟨b, j, none⟩ = w.cell? ⟨b, j, none⟩ := fun j => World.cell?_setCell_other _ _ _ _ (fun e => hp (by rw [e]))
  obtain ⟨h0, h1, h2, h3, h4, h5⟩ := h
  exact ⟨(f _).trans h0, (f _).trans h1, (f _).trans h2, (f _).trans h3, (f _).trans h4, (f _).trans h5⟩
theorem Own.setFar {w : World} {g n : Nat} {es : List Evt} (h : Own w g n es) {p : Addr} (hp : p.block ≠ g) (u : Value) : Own (w.setCell p u) g n es :=
  ⟨h.1, by simpa using h.2.1, fun i hi => (h.2.2.1 i hi).setFar hp u, fun j hj => by have := h.2.2.2 j hj; simpa [go_sem] using this⟩
/-- The world with a rule's five cells laid. -/
def putR (w : World) (b o : Nat) (r : Rule) (s : Value) : World :=
  ((((w.setCell ⟨b, o, none⟩ (.int .i64 r.kd)).setCell ⟨b, o + 1, none⟩ (.int .i64 r.a)).setCell ⟨b, o + 2, none⟩ (.int .i64 r.b)).setCell ⟨b, o + 3, none⟩ (.int .i64 r.c)).setCell ⟨b, o + 4, none⟩ s
theorem putR_other (w : World) (b o : Nat) (r : Rule) (s : Value) (b' o' : Nat) (h : b ≠ b' ∨ o' < o ∨ o + 5 ≤ o') : (putR w b o r s).cell? ⟨b', o', none⟩ = w.cell? ⟨b', o', none⟩ := by
  unfold putR
  have f : ∀ k, k < 5 → (⟨b, o + k, none⟩ : Addr) ≠ ⟨b', o', none⟩ := fun k hk => addr_ne (by omega)
  have f0 : (⟨b, o, none⟩ : Addr) ≠ ⟨b', o', none⟩ := addr_ne (by omega)
  rw [World.cell?_setCell_other _ _ _ _ (f 4 (by omega)), World.cell?_setCell_other _ _ _ _ (f 3 (by omega)), World.cell?_setCell_other _ _ _ _ (f 2 (by omega)), World.cell?_setCell_other _ _ _ _ (f 1 (by omega)), World.cell?_setCell_other _ _ _ _ f0]
theorem putR_frozen (w : World) (b o : Nat) (r : Rule) (s : Value) (a : Addr) : (putR w b o r s).frozen? a = w.frozen? a := by
  unfold putR; simp [go_sem]
theorem putR_size (w : World) (b o : Nat) (r : Rule) (s : Value) : (putR w b o r s).heap.size = w.heap.size := by
  unfold putR; simp
theorem Up.putR {a w : World} (h : Up a w) {b o : Nat} {r : Rule} {s : Value} (hb : a.heap.size ≤ b) : Up a (putR w b o r s) :=
  ((((h.setCell hb _).setCell hb _).setCell hb _).setCell hb _).setCell hb _
theorem putR_at {w : World} {b o : Nat} {r : Rule} {s : Value} (h : ∀ k, k < 5 → ∃ v, w.cell? ⟨b, o + k, none⟩ = some v) :
    (putR w b o r s).cell? ⟨b, o, none⟩ = some (.int .i64 r.kd) ∧ (putR w b o r s).cell? ⟨b, o + 1, none⟩ = some (.int .i64 r.a) ∧ (putR w b o r s).cell? ⟨b, o + 2, none⟩ = some (.int .i64 r.b) ∧ (putR w b o r s).cell? ⟨b, o + 3, none⟩ = some (.int .i64 r.c) ∧ (putR w b o r s).cell? ⟨b, o + 4, none⟩ = some s := by
  have ne : ∀ k j, k ≠ j → (⟨b, o + k, none⟩ : Addr) ≠ ⟨b, o + j, none⟩ := fun k j hk => addr_ne (by omega)
  have nez : ∀ k, k ≠ 0 → (⟨b, o + k, none⟩ : Addr) ≠ ⟨b, o, none⟩ := fun k hk => addr_ne (by omega)
  have ne0 : ∀ j, 0 ≠ j → (⟨b, o, none⟩ : Addr) ≠ ⟨b, o + j, none⟩ := fun j hj => addr_ne (by omega)
  unfold putR; obtain ⟨v0, h0⟩ := h 0 (by omega); obtain ⟨v1, h1⟩ := h 1 (by omega); obtain ⟨v2, h2⟩ := h 2 (by omega); obtain ⟨v3, h3⟩ := h 3 (by omega); obtain ⟨v4, h4⟩ := h 4 (by omega); refine ⟨?_, ?_, ?_, ?_, ?_⟩
  · rw [World.cell?_setCell_other _ _ _ _ (nez 4 (by omega)), World.cell?_setCell_other _ _ _ _ (nez 3 (by omega)), World.cell?_setCell_other _ _ _ _ (nez 2 (by omega)), World.cell?_setCell_other _ _ _ _ (nez 1 (by omega))]
    exact World.cell?_setCell_same _ _ _ h0
  · rw [World.cell?_setCell_other _ _ _ _ (ne 4 1 (by omega)), World.cell?_setCell_other _ _ _ _ (ne 3 1 (by omega)), World.cell?_setCell_other _ _ _ _ (ne 2 1 (by omega))]
    exact World.cell?_setCell_same _ _ _ ((World.cell?_setCell_other _ _ _ _ (ne0 1 (by omega))).trans h1)
  · rw [World.cell?_setCell_other _ _ _ _ (ne 4 2 (by omega)), World.cell?_setCell_other _ _ _ _ (ne 3 2 (by omega))]
    exact World.cell?_setCell_same _ _ _ ((World.cell?_setCell_other _ _ _ _ (ne 1 2 (by omega))).trans ((World.cell?_setCell_other _ _ _ _ (ne0 2 (by omega))).trans h2))
  · rw [World.cell?_setCell_other _ _ _ _ (ne 4 3 (by omega))]
    exact World.cell?_setCell_same _ _ _ ((World.cell?_setCell_other _ _ _ _ (ne 2 3 (by omega))).trans ((World.cell?_setCell_other _ _ _ _ (ne 1 3 (by omega))).trans ((World.cell?_setCell_other _ _ _ _ (ne0 3 (by omega))).trans h3)))
  · exact World.cell?_setCell_same _ _ _ ((World.cell?_setCell_other _ _ _ _ (ne 3 4 (by omega))).trans ((World.cell?_setCell_other _ _ _ _ (ne 2 4 (by omega))).trans ((World.cell?_setCell_other _ _ _ _ (ne 1 4 (by omega))).trans ((World.cell?_setCell_other _ _ _ _ (ne0 4 (by omega))).trans h4))))
theorem Own.putR {w : World} {g n b o : Nat} {es : List Evt} {r : Rule} {s : Value} (h : Own w g n es) (hb : b ≠ g) : Own (putR w b o r s) g n es :=
  ((((h.setFar (p := ⟨b, o, none⟩) hb _).setFar (p := ⟨b, o + 1, none⟩) hb _).setFar (p := ⟨b, o + 2, none⟩) hb _).setFar (p := ⟨b, o + 3, none⟩) hb _).setFar (p := ⟨b, o + 4, none⟩) hb _
/-- A new block's cells are there. -/
theorem somes_new (w : World) (xs : Array Value) (t : TypeId) (j : Nat) (hj : j < xs.size) : ∃ v, (w.alloc (.cells xs t)).cell? ⟨w.heap.size, j, none⟩ = some v := by
  have hh := heap_alloc_new w (.cells xs t)
  exact ⟨_, by rw [cell_of_row _ _ j _ _ _ hh]; exact Array.getElem?_eq_getElem hj⟩
/-- A rule over a new slice of its sends. -/
def NewRule (r : Rule) (n : Nat) (w : World) (x : Ending) (w' : World) : Prop :=
  ∃ g, x = .returned (r.v (.slice (some ⟨g, 0, none⟩) n n)) ∧ w.heap.size ≤ g ∧ Own w' g n r.sends ∧ Up w w'
set_option maxHeartbeats 2000000 in
theorem toRule_any (r : Rule) (A : Option Addr) (n c : Nat) (w : World) (hn : n ≤ 1000000000) (hE : Evs w A n r.sends) :
    Calls Try.prog 140 #[r.v (.slice A n c)] w (NewRule r n w) := by
  obtain ⟨kd, ra, rb, rc, es⟩ := r
  have CL := Lib.hid (fun W (u : Up w W) => toSndS_any A n c es W hn (hE.up u))
  clear hE; unfold Rule.v NewRule; unfold Rule.v; dsimp only
  go_enter Try.func140, Try.ntmps140
  go_wp2_with fail
  refine (CL.out _ ((((Up.refl w).alloc _).alloc _).alloc _)).mono ?_; rintro x w1 ⟨g, rfl, hg, o1, u1⟩
  have O1 := Lib.hid o1
  have U1 := Lib.hid ((((Up.refl w).alloc _).alloc _).alloc _ |>.trans u1)
  simp at hg
  have HG := Lib.hid hg
  have Z := Lib.hid (fun j (hj : j < 5) => (show ∃ v, w1.cell? ⟨w.heap.size + 1, j, none⟩ = some v by
    obtain ⟨v, hv⟩ := somes_new (w.alloc (.cells #[.int .i64 kd, .int .i64 ra, .int .i64 rb, .int .i64 rc, .slice A n c] 174)) #[.int .i64 0, .int .i64 0, .int .i64 0, .int .i64 0, .slice none 0 0] 63 j hj
    have hs : (w.alloc (.cells #[.int .i64 kd, .int .i64 ra, .int .i64 rb, .int .i64 rc, .slice A n c] 174)).heap.size = w.heap.size + 1 := by simp
    rw [hs] at hv
    exact ⟨v, (((Up.refl _).alloc _).trans u1).cells _ _ (by simp) |>.trans hv⟩))
  obtain ⟨hc, hf, hz⟩ := u1.facts; simp at hz; clear o1 hg u1; go_wp2
  have ne : (⟨w.heap.size + 1 + 1, 4, none⟩ : Addr).block ≠ w.heap.size + 1 := by simp
  have K := putR_at (w := w1.setCell ⟨w.heap.size + 1 + 1, 4, none⟩ (.slice (some ⟨g, 0, none⟩) n n)) (b := w.heap.size + 1) (o := 0) (r := ⟨kd, ra, rb, rc, es⟩) (s := .slice (some ⟨g, 0, none⟩) n n) (fun k hk => by
    obtain ⟨v, hv⟩ := Z.out k hk; refine ⟨v, (World.cell?_setCell_other _ _ _ _ (fun e => ne (by rw [e]))).trans ?_⟩; rw [Nat.zero_add]
    exact hv)
  have O2 := Lib.hid ((O1.out.setFar (p := ⟨w.heap.size + 1 + 1, 4, none⟩) (by have := HG.out; dsimp only; omega) (.slice (some ⟨g, 0, none⟩) n n)).putR (b := w.heap.size + 1) (o := 0) (r := ⟨kd, ra, rb, rc, es⟩) (s := .slice (some ⟨g, 0, none⟩) n n) (by have := HG.out; omega))
  have U2 := Lib.hid ((U1.out.setCell (p := ⟨w.heap.size + 1 + 1, 4, none⟩) (by dsimp only; omega) (.slice (some ⟨g, 0, none⟩) n n)).putR (b := w.heap.size + 1) (o := 0) (r := ⟨kd, ra, rb, rc, es⟩) (s := .slice (some ⟨g, 0, none⟩) n n) (by omega))
  unfold putR at K O2 U2; simp only [Nat.zero_add] at K; obtain ⟨k0, k1, k2, k3, k4⟩ := K
  exact bodyPost_ret (v := .agg #[.int .i64 kd, .int .i64 ra, .int .i64 rb, .int .i64 rc, .slice (some ⟨g, 0, none⟩) n n]) (by simp [results, Try.results140, go_sem, k0, k1, k2, k3, k4]) rfl ⟨g, rfl, by have := HG.out; omega, O2.out, U2.out⟩
end Go.Proofs.Ytakmlfgkppekoaa

namespace Go.Proofs.Ytakmlfgkppekoaa
set_option maxRecDepth 100000
open Go.RowKit
/-- The first rule of a kind. -/
def ruleOf (kd : Int) : List Rule → Option Rule
  | [] => none
  | r :: rs => if r.kd = kd then some r else ruleOf kd rs
theorem ruleOf_drop (kd : Int) (rs : List Rule) (k : Nat) (h : k < rs.length) : ruleOf kd (rs.drop k) = if (rs.getD k default).kd = kd then some (rs.getD k default) else ruleOf kd (rs.drop (k + 1)) := by
  rw [List.drop_eq_getElem_cons h, ruleOf]; simp [h]
/-- Where it stands. -/
def ixOf (kd : Int) : List Rule → Nat
  | [] => 0
  | r :: rs => if r.kd = kd then 0 else ixOf kd rs + 1
theorem ixOf_drop (kd : Int) (rs : List Rule) (k : Nat) (h : k < rs.length) : ixOf kd (rs.drop k) = if (rs.getD k default).kd = kd then 0 else ixOf kd (rs.drop (k + 1)) + 1 := by
  rw [List.drop_eq_getElem_cons h, ixOf]; simp [h]
theorem ixOf_at (kd : Int) : ∀ (rs : List Rule) (r : Rule), ruleOf kd rs = some r → ixOf kd rs < rs.length ∧ rs.getD (ixOf kd rs) default = r
  | [], _, h => by cases h
  | x :: rs, r, h => by
    rw [ruleOf] at h; rw [ixOf]
    by_cases hk : x.kd = kd
    · rw [if_pos hk] at h ⊢
      injection h with h
      exact ⟨by simp, by simpa using h⟩
    · rw [if_neg hk] at h ⊢
      obtain ⟨h1, h2⟩ := ixOf_at kd rs r h
      exact ⟨by simpa using h1, by simpa using h2⟩
/-- What the search gives. -/
def Found (A0 : Option Addr) (kd : Int) (rs : List Rule) (w : World) (x : Ending) (w' : World) : Prop :=
  Up w w' ∧ ((∃ r A n c, ruleOf kd rs = some r ∧ x = .returned (.tuple #[r.v (.slice A n c), .bool true]) ∧ n ≤ 9223372036854775807 ∧ Evs w' A n r.sends ∧ ∀ b off, A0 = some ⟨b, off, none⟩ → w.cell? ⟨b, off + ixOf kd rs * 5 + 4, none⟩ = some (.slice A n c)) ∨ (ruleOf kd rs = none ∧ x = .returned (.tuple #[.agg #[.int .i64 0, .int .i64 0, .int .i64 0, .int .i64 0, .slice none 0 0], .bool false])))
end Go.Proofs.Ytakmlfgkppekoaa

namespace Go.Proofs.Ytakmlfgkppekoaa
set_option maxRecDepth 100000
open Go.RowKit
set_option maxHeartbeats 20000000 in
theorem l2Rule_any (A : Option Addr) (n c : Nat) (kd : Int) (rs : List Rule) (w : World) (hR : Rules w A n rs) :
    Calls Try.prog 72 #[.slice A n c, .int .i64 kd] w (Found A kd rs w) := by
  have hbig := hR.2.1
  have HR := Lib.hid hR
  have LR := Lib.hid hR.1
  have RD := Lib.hid (ruleOf_drop kd rs)
  have ID := Lib.hid (ixOf_drop kd rs)
  have H0 := Lib.hid (show ruleOf kd (rs.drop 0) = ruleOf kd rs from rfl)
  have H1 := Lib.hid (show ixOf kd (rs.drop 0) + 0 = ixOf kd rs from rfl)
  clear hR
  go_enter Try.func72, Try.ntmps72
  go_wp2
  go_loopw [6] (fun i wr => (∃ q : Nat, q ≤ n ∧ i = .int .i64 q ∧ Hid (ruleOf kd (rs.drop q) = ruleOf kd rs) ∧ Hid (ixOf kd (rs.drop q) + q = ixOf kd rs)) ∧ wr = w.alloc (.cells #[.int .i64 0, .int .i64 0, .int .i64 0, .int .i64 0, .slice none 0 0] 63)) (fun i _ => n - (intOf i).toNat)
  case atStart => exact ⟨⟨0, by omega, rfl, H0, H1⟩, rfl⟩
  case round =>
    obtain ⟨⟨q, hq, rfl, HA, HI⟩, rfl⟩ := hrel
    have UA := Lib.hid ((Up.refl w).alloc (.cells #[.int .i64 0, .int .i64 0, .int .i64 0, .int .i64 0, .slice none 0 0] 63))
    by_cases hlt : q < n
    · obtain ⟨b, off, hA, hb, hc⟩ := HR.out.2.2 (by omega)
      subst hA
      have at2 := hc q hlt
      have T := RD.out q (by rw [LR.out]; exact hlt)
      rw [HA.out] at T
      have I := ID.out q (by rw [LR.out]; exact hlt)
      clear hc
      generalize rs.getD q default = r at at2 T I
      obtain ⟨A3, n3, c3, ⟨r0, r1, r2, r3, r4⟩, hn3, he3⟩ := at2; obtain ⟨k, ra, rb, rc, es⟩ := r; dsimp only at r0 r1 r2 r3 r4 T I he3
      have I := Lib.hid I
      have E3 := Lib.hid he3
      have T := Lib.hid T
      clear he3
      have i4 : (q : Int) < n := by omega
      have i5 : IntKind.i64.wrap ((q : Int) + 1) = (q : Int) + 1 := IntWalk.i64_in _ (by omega)
      by_cases hk : k = kd
      · subst hk
        have TT := Lib.hid (show ruleOf k rs = some ⟨k, ra, rb, rc, es⟩ by rw [T.out, if_pos rfl])
        have II := Lib.hid (show ixOf k rs = q by rw [← HI.out, I.out, if_pos rfl, Nat.zero_add])
        have C4 := Lib.hid r4
        have U2 := Lib.hid ((Up.refl w).alloc (.cells #[.int .i64 k, .int .i64 ra, .int .i64 rb, .int .i64 rc, .slice A3 n3 c3] 63))
        have E4 := Lib.hid (E3.out.up U2.out)
        go_wp2
        exact bodyPost_ret (v := .tuple #[.agg #[.int .i64 k, .int .i64 ra, .int .i64 rb, .int .i64 rc, .slice A3 n3 c3], .bool true]) (by simp [results, Try.results72, go_sem]) rfl ⟨U2.out, .inl ⟨⟨k, ra, rb, rc, es⟩, A3, n3, c3, TT.out, rfl, hn3, E4.out, fun b' off' hA' => by
          injection hA' with hA'
          injection hA' with h1 h2 _
          rw [← h1, ← h2, II.out]
          exact C4.out⟩⟩
      · have TT := Lib.hid (show ruleOf kd (rs.drop (q + 1)) = ruleOf kd rs by rw [T.out]; exact (if_neg hk).symm)
        have II := Lib.hid (show ixOf kd (rs.drop (q + 1)) + (q + 1) = ixOf kd rs by rw [← HI.out, I.out, if_neg hk]; omega)
        go_wp2
        go_roundw
        case rel => first | exact ⟨⟨q + 1, by omega, by first | rfl | go_num, TT, II⟩, rfl⟩ | exact ⟨q + 1, by omega, by first | rfl | go_num, TT, II⟩ | (refine ⟨⟨q + 1, by omega, by first | rfl | go_num, TT, II⟩, ?_⟩; trivial)
        case measure => (simp [intOf]; try omega)
    · have TN := Lib.hid (show ruleOf kd rs = none by rw [← HA.out, List.drop_eq_nil_of_le (by rw [LR.out]; omega)]; rfl)
      have i4 : ¬ (q : Int) < n := by omega
      go_wp2
      exact bodyPost_ret (v := .tuple #[.agg #[.int .i64 0, .int .i64 0, .int .i64 0, .int .i64 0, .slice none 0 0], .bool false]) (by simp [results, Try.results72, go_sem]) rfl ⟨UA.out, .inr ⟨TN.out, rfl⟩⟩
end Go.Proofs.Ytakmlfgkppekoaa

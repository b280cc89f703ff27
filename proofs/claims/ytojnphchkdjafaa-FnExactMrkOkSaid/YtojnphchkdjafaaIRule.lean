/-
  What impl.ruleOk returns, in one sentence: the bool that the bounds of the rule and of what it sends give; for every rule that lies in memory.
-/
import Derived.Test.YtojnphchkdjafaaMDef
namespace Go.Proofs.Ytojnphchkdjafaa
set_option maxRecDepth 100000
open Go.RowKit

set_option maxHeartbeats 4000000 in
theorem implRule_any (r : Rule) (A : Option Addr) (n c : Nat) (many : Int) (hm1 : 1 ≤ many) (hm2 : many ≤ 4) (w : World) (hn : n ≤ 9223372036854775807) (hE : Evs w A n r.sends) :
    Calls Try.prog 105 #[r.v (.slice A n c), .int .i64 many] w fun x w' => x = .returned (.bool (ruleB r many)) ∧ Up w w' := by
  obtain ⟨kd, ra, rb, rc, es⟩ := r
  have AD := Lib.hid (fun k h => all_drop (f := fun e => sndB e many) (d := default) es k h)
  have AE := Lib.hid (fun k h => all_end (f := fun e => sndB e many) es k h)
  have HE := Lib.hid hE
  have LE := Lib.hid hE.1
  have CL := Lib.hid (fun e W => implSnd_any e many hm1 hm2 W)
  have RB := Lib.hid (show ruleB ⟨kd, ra, rb, rc, es⟩ many = (es.all (fun e => sndB e many) && decide ((n : Int) ≤ 2) && inB kd 0 2 && inB ra 0 96 && inB rb 0 96 && inB rc 0 96) by rw [← hE.1]; rfl)
  have H0 := Lib.hid (show (es.drop 0).all (fun e => sndB e many) = es.all (fun e => sndB e many) from rfl)
  generalize ruleB ⟨kd, ra, rb, rc, es⟩ many = res at RB ⊢
  generalize es.all (fun e => sndB e many) = al at RB H0
  clear hE
  unfold Rule.v
  dsimp only
  go_enter Try.func105, Try.ntmps105
  go_wp2
  go_loopw [10] (fun i wr => (∃ k : Nat, k ≤ n ∧ i = .int .i64 k ∧ Hid ((es.drop k).all (fun e => sndB e many) = al)) ∧ Up (w.alloc (.cells #[.int .i64 kd, .int .i64 ra, .int .i64 rb, .int .i64 rc, .slice A n c] 109)) wr) (fun i _ => n - (intOf i).toNat)
  case atStart => exact ⟨⟨0, by omega, rfl, H0⟩, Up.refl _⟩
  case round =>
    obtain ⟨⟨k, hk, rfl, HA⟩, ur⟩ := hrel
    have hw : Up w wr := ((Up.refl w).alloc _).trans ur
    by_cases hlt : k < n
    · obtain ⟨b, off, hA, hb, hc⟩ := HE.out.2 (by omega)
      subst hA
      have a0 := (hc k hlt).up hw hb
      have hb' : b < wr.heap.size := by have := hw.size; omega
      clear hc
      have S := AD.out k (by rw [LE.out]; exact hlt)
      rw [HA.out] at S
      have cl := CL.out (es.getD k default)
      generalize es.getD k default = e at a0 S cl
      generalize sndB e many = s at S cl
      obtain ⟨et, eto, efr, esq, ekd, edt⟩ := e
      unfold EvAt at a0
      unfold Evt.v at cl
      dsimp only at a0 cl
      obtain ⟨p0, p1, p2, p3, p4, p5⟩ := a0
      have C := Lib.hid cl
      have S' := Lib.hid S
      have UR := Lib.hid ur
      clear cl S hw ur
      have i4 : (k : Int) < n := by omega
      have i5 : IntKind.i64.wrap ((k : Int) + 1) = (k : Int) + 1 := IntWalk.i64_in _ (by omega)
      go_wp2_with fail
      refine (C.out _).mono ?_
      rintro x w2 ⟨rfl, u2⟩
      have U2 := Lib.hid ((UR.out.alloc _).trans u2)
      clear u2
      cases s
      · go_wp2
        go_ret
        exact ⟨ret_bool (by rw [RB.out, S'.out]; rfl), ((Up.refl w).alloc _).trans U2.out⟩
      · go_wp2
        go_roundw
        case rel => exact ⟨⟨k + 1, by omega, by first | rfl | go_num, Lib.hid (by rw [S'.out, Bool.true_and])⟩, U2.out⟩
        case measure => (simp [intOf]; try omega)
    · have hal : al = true := HA.out.symm.trans (AE.out k (by rw [LE.out]; omega))
      have RB2 := Lib.hid (hal ▸ RB.out)
      have HW := Lib.hid hw
      obtain ⟨hc, hf, hz⟩ := ur.facts
      simp at hz
      clear hw hal RB HA AD AE CL HE LE H0
      have i4 : ¬ (k : Int) < n := by omega
      go_wp2_with (go_at_call 64; refine (within_any _ _ _ _).mono ?_; rintro e w' ⟨rfl, rfl⟩)
      all_goals go_ret
      all_goals exact ⟨ret_bool (by rw [RB2.out]; first | (simp [*]; done) | (simp [*]; intros; omega)), HW.out⟩

end Go.Proofs.Ytojnphchkdjafaa

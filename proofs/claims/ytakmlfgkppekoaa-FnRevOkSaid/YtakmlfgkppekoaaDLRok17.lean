/-
  What spec.MdlOk returns, in one sentence: the bool that the bounds give; for every model that lies in memory.
-/
import Derived.Test.YtakmlfgkppekoaaDLRok13
import Derived.Test.YtakmlfgkppekoaaDLRok15
namespace Go.Proofs.Ytakmlfgkppekoaa
set_option maxRecDepth 100000
open Go.RowKit
set_option maxHeartbeats 20000000 in
theorem specMdl_any (A : Option Addr) (n c : Nat) (B : Option Addr) (k d : Nat) (m : Mdl) (w : World) (hM : MdlV w A n B k m) :
    Calls Try.prog 35 #[.agg #[.slice A n c, .slice B k d, .int .i64 m.til]] w fun x w' => x = .returned (.bool (mdlB m)) ∧ Up w w' := by
  have RB := Lib.hid (show mdlB m = (inB n 1 4 && inB m.til 0 99 && (decide ((k : Int) ≤ 6) && riseB m.starts && m.starts.all (startB m.til n)) && m.rules.all (rulesB n (-1))) by rw [← hM.rules.1, ← hM.starts.1]; rfl)
  obtain ⟨rss, es, til⟩ := m; dsimp only at RB ⊢
  have HM := Lib.hid hM
  have LR := Lib.hid hM.rules.1
  have LE := Lib.hid hM.starts.1
  have AD := Lib.hid (fun i h => all_drop (f := rulesB n (-1)) (d := []) rss i h)
  have AE := Lib.hid (fun i h => all_end (f := rulesB n (-1)) rss i h)
  have SD := Lib.hid (fun i h => all_drop (f := startB til n) (d := default) es i h)
  have SE := Lib.hid (fun i h => all_end (f := startB til n) es i h)
  have H0 := Lib.hid (show (rss.drop 0).all (rulesB n (-1)) = rss.all (rulesB n (-1)) from rfl)
  have H1 := Lib.hid (show (es.drop 0).all (startB til n) = es.all (startB til n) from rfl)
  have L1 := Lib.hid l1In_up
  have B0 := Lib.hid (Box3.new w (.slice A n c) (.slice B k d) (.int .i64 til) 33)
  have RC := Lib.hid (fun W rs A' n' c' h1 h2 h => specRules_any A' n' c' n rs h1 h2 W h)
  have OC := Lib.hid (fun e W => specOk_any e n W)
  have RI := Lib.hid (fun W a h => specRise_any B k d es W a h)
  generalize mdlB ⟨rss, es, til⟩ = res at RB ⊢
  generalize rss.all (rulesB n (-1)) = ru at RB H0
  generalize es.all (startB til n) = al at RB H1
  generalize riseB es = ri at RB RI
  clear hM
  by_cases hm : (1 : Int) ≤ n ∧ (n : Int) ≤ 4
  · have hin : inB n 1 4 = true := inB_iff.2 hm
    obtain ⟨hm1, hm2⟩ := hm
    by_cases ht : 0 ≤ til ∧ til ≤ 99
    · have hit : inB til 0 99 = true := inB_iff.2 ht
      clear ht
      by_cases h6 : (k : Int) ≤ 6
      · have R1 := Lib.hid (show res = (ri && al && ru) by rw [RB.out, hin, hit, decide_eq_true h6]; simp)
        have j6 : ¬ (6 : Int) < k := by omega
        clear RB
        go_enter Try.func35, Try.ntmps35
        go_wp2_with (go_at_call 64; refine (l1In_any _ _ _ _).mono ?_; rintro e w' ⟨rfl, rfl⟩)
        refine (RI.out _ (by omega) (HM.out.starts.up ((Up.refl _).alloc _))).mono ?_; rintro x w1 ⟨rfl, u1⟩
        have U1 := Lib.hid (((Up.refl w).alloc _).trans u1)
        have B1 := Lib.hid (B0.out.up u1)
        clear u1 RI B0 hin hit
        cases ri
        · go_wp2
          go_ret
          exact ⟨ret_bool (by rw [R1.out]; rfl), U1.out⟩
        · have R2' := Lib.hid (show res = (al && ru) by rw [R1.out]; rfl)
          clear R1; go_wp2
          go_loopw [4] (fun i wr => (∃ q : Nat, q ≤ n ∧ i = .int .i64 q ∧ Hid ((rss.drop q).all (rulesB n (-1)) = ru)) ∧ Up w1 wr) (fun i _ => n - (intOf i).toNat)
          case atStart => exact ⟨⟨0, by omega, rfl, H0⟩, Up.refl _⟩
          case round =>
            obtain ⟨⟨q, hq, rfl, HA⟩, ur⟩ := hrel
            have bx := B1.out.up ur
            obtain ⟨q0, q1, q2⟩ := And.intro bx.c0 (And.intro bx.c1 bx.c2)
            have qlt := bx.lt
            have UR := Lib.hid (U1.out.trans ur)
            have UR1 := Lib.hid ur
            clear bx
            by_cases hlt : q < n
            · obtain ⟨b, off, hA, hb, hc⟩ := (HM.out.rules.up UR.out).2.2 (by omega)
              subst hA; obtain ⟨A', n', c', cell, hrs⟩ := hc q hlt
              have S := AD.out q (by rw [LR.out]; exact hlt)
              rw [HA.out] at S
              have cl := RC.out wr (rss.getD q []) A' n' c' hm1 hm2 hrs
              clear hc hrs ur
              generalize rulesB n (-1) (rss.getD q []) = s at S cl
              have S' := Lib.hid S
              have C := Lib.hid cl
              clear S cl
              have i4 : (q : Int) < n := by omega
              have i5 : IntKind.i64.wrap ((q : Int) + 1) = (q : Int) + 1 := IntWalk.i64_in _ (by omega)
              go_wp2_with fail
              refine C.out.mono ?_; rintro x w2 ⟨rfl, u2⟩
              have U2 := Lib.hid (UR1.out.trans u2)
              clear u2
              cases s
              · go_wp2
                go_ret
                exact ⟨ret_bool (by rw [R2'.out, show ru = false by rw [S'.out]; rfl]; first | done | simp), U1.out.trans U2.out⟩
              · go_wp2
                go_roundw
                case rel => exact ⟨⟨q + 1, by omega, by first | rfl | go_num, Lib.hid (by rw [S'.out, Bool.true_and])⟩, U2.out⟩
                case measure => (simp [intOf]; try omega)
            · have hru : ru = true := HA.out.symm.trans (AE.out q (by rw [LR.out]; omega))
              have R2 := Lib.hid (show res = al by rw [R2'.out, hru]; simp)
              have i4 : ¬ (q : Int) < n := by omega
              obtain ⟨wo, hwo⟩ : ∃ W, W = wr := ⟨_, rfl⟩; subst hwo; clear hru ur; go_wp2; clear q0 q1 q2
              go_loopw [5] (fun i wr => (∃ p : Nat, p ≤ k ∧ i = .int .i64 p ∧ Hid ((es.drop p).all (startB til n) = al)) ∧ Up wo wr) (fun i _ => k - (intOf i).toNat)
              case atStart => exact ⟨⟨0, by omega, rfl, H1⟩, Up.refl _⟩
              case round =>
                obtain ⟨⟨p, hp, rfl, HP⟩, uj⟩ := hrel
                have UR := Lib.hid (UR.out.trans uj)
                have UJ := Lib.hid uj
                have bx := B1.out.up (UR1.out.trans uj)
                obtain ⟨q0, q1, q2⟩ := And.intro bx.c0 (And.intro bx.c1 bx.c2)
                have qlt2 := bx.lt
                clear bx
                by_cases hlp : p < k
                · obtain ⟨b, off, hA, hb, hc⟩ := (HM.out.starts.up UR.out).2 (by omega)
                  subst hA
                  have a0 := hc p hlp
                  clear hc uj
                  have S := SD.out p (by rw [LE.out]; exact hlp)
                  rw [HP.out] at S
                  have cl := OC.out (es.getD p default)
                  generalize es.getD p default = e at a0 S cl
                  obtain ⟨et, eto, efr, esq, ekd, edt⟩ := e; rw [show startB til n ⟨et, eto, efr, esq, ekd, edt⟩ = (decide (efr = -1) && decide (et ≤ til) && okB ⟨et, eto, efr, esq, ekd, edt⟩ n) from rfl] at S
                  generalize okB ⟨et, eto, efr, esq, ekd, edt⟩ n = s at S cl
                  unfold EvAt at a0; unfold Evt.v at cl; dsimp only at a0 cl S; obtain ⟨p0, p1, p2, p3, p4, p5⟩ := a0
                  have C := Lib.hid cl
                  have S' := Lib.hid S
                  clear cl S
                  have i6 : (p : Int) < k := by omega
                  have i7 : IntKind.i64.wrap ((p : Int) + 1) = (p : Int) + 1 := IntWalk.i64_in _ (by omega)
                  cases s
                  · go_wp2_with fail
                    refine region_qw (by kernel_rfl) (by kernel_rfl) ?_; refine qWalk_step ?_; intro K hK; go_simp; apply Exists.intro; refine And.intro ?_ ?_
                    · intro w1 hw1
                      try go_simp
                      try rfl
                    try go_simp
                    refine hK _ ?_; clear hK K; refine qWalk_step ?_; intro K hK; go_simp; apply Exists.intro; refine And.intro ?_ ?_
                    · intro w1 hw1
                      obtain ⟨hc, hf, hz⟩ := hw1.facts
                      try simp at hz
                      try go_simp
                      try rfl
                    try go_simp
                    iterate 2
                      refine hK _ ?_; clear hK K; refine qWalk_step ?_; intro K hK; go_simp; apply Exists.intro; refine And.intro ?_ ?_
                      · intro w1 hw1
                        try go_simp
                        try rfl
                      try go_simp
                    refine hK _ ?_; clear hK K; refine qWalk_step ?_; intro K hK; go_simp; apply Exists.intro; refine And.intro ?_ ?_
                    · intro w1 hw1
                      obtain ⟨hc, hf, hz⟩ := hw1.facts
                      try simp at hz
                      try go_simp
                      try rfl
                    try go_simp
                    refine hK _ ?_; clear hK K; refine qWalk_step ?_; intro K hK; go_simp; apply Exists.intro; refine And.intro ?_ ?_
                    · intro w1 hw1
                      try go_simp
                      try rfl
                    try go_simp
                    refine hK _ ?_; clear hK K; refine qWalk_step ?_; intro K hK; go_simp; apply Exists.intro; refine And.intro ?_ ?_
                    · intro w1 hw1
                      try go_simp
                      exact up_call hw1 (C.out _)
                    try go_simp
                    iterate 2
                      refine hK _ ?_; clear hK K; refine qWalk_step ?_; intro K hK; go_simp; apply Exists.intro; refine And.intro ?_ ?_
                      · intro w1 hw1
                        try go_simp
                        try rfl
                      try go_simp
                    iterate 8
                      refine hK _ ?_; clear hK K; refine qWalk_step ?_; intro K hK; go_simp
                    iterate 2
                      apply Exists.intro; refine And.intro ?_ ?_
                      · intro w1 hw1
                        try go_simp
                        try rfl
                      try go_simp
                      refine hK _ ?_; clear hK K; refine qWalk_step ?_; intro K hK; go_simp
                    iterate 9
                      refine hK _ ?_; clear hK K; refine qWalk_step ?_; intro K hK; go_simp
                    apply Exists.intro; refine And.intro ?_ ?_
                    · intro w1 hw1
                      try go_simp
                      try rfl
                    try go_simp
                    refine hK _ ?_; clear hK K; refine qWalk_nil ?_; intro wA uA
                    have UA := Lib.hid (UR.out.trans uA)
                    clear uA; go_wp2; go_ret
                    exact ⟨ret_bool (by rw [R2.out, show al = false by rw [S'.out]; simp]), UA.out⟩
                  · by_cases hf : efr = -1
                    · subst hf
                      by_cases ht : et ≤ til
                      · have ht' : ¬ til < et := by omega
                        have AL := Lib.hid (show (es.drop (p + 1)).all (startB til n) = al by rw [S'.out, decide_eq_true ht]; simp)
                        go_wp2_with fail
                        refine region_qw (by kernel_rfl) (by kernel_rfl) ?_; refine qWalk_step ?_; intro K hK; go_simp; apply Exists.intro; refine And.intro ?_ ?_
                        · intro w1 hw1
                          try go_simp
                          try rfl
                        try go_simp
                        refine hK _ ?_; clear hK K; refine qWalk_step ?_; intro K hK; go_simp; apply Exists.intro; refine And.intro ?_ ?_
                        · intro w1 hw1
                          obtain ⟨hc, hf, hz⟩ := hw1.facts
                          try simp at hz
                          try go_simp
                          try rfl
                        try go_simp
                        iterate 2
                          refine hK _ ?_; clear hK K; refine qWalk_step ?_; intro K hK; go_simp; apply Exists.intro; refine And.intro ?_ ?_
                          · intro w1 hw1
                            try go_simp
                            try rfl
                          try go_simp
                        refine hK _ ?_; clear hK K; refine qWalk_step ?_; intro K hK; go_simp; apply Exists.intro; refine And.intro ?_ ?_
                        · intro w1 hw1
                          obtain ⟨hc, hf, hz⟩ := hw1.facts
                          try simp at hz
                          try go_simp
                          try rfl
                        try go_simp
                        refine hK _ ?_; clear hK K; refine qWalk_step ?_; intro K hK; go_simp; apply Exists.intro; refine And.intro ?_ ?_
                        · intro w1 hw1
                          try go_simp
                          try rfl
                        try go_simp
                        refine hK _ ?_; clear hK K; refine qWalk_step ?_; intro K hK; go_simp; apply Exists.intro; refine And.intro ?_ ?_
                        · intro w1 hw1
                          try go_simp
                          exact up_call hw1 (C.out _)
                        try go_simp
                        iterate 3
                          refine hK _ ?_; clear hK K; refine qWalk_step ?_; intro K hK; go_simp; apply Exists.intro; refine And.intro ?_ ?_
                          · intro w1 hw1
                            try go_simp
                            try rfl
                          try go_simp
                        refine hK _ ?_; clear hK K; refine qWalk_step ?_; intro K hK; go_simp; apply Exists.intro; refine And.intro ?_ ?_
                        · intro w1 hw1
                          obtain ⟨hc, hf, hz⟩ := hw1.facts
                          try simp at hz
                          try go_simp
                          try rfl
                        try go_simp
                        iterate 3
                          refine hK _ ?_; clear hK K; refine qWalk_step ?_; intro K hK; go_simp; apply Exists.intro; refine And.intro ?_ ?_
                          · intro w1 hw1
                            try go_simp
                            try rfl
                          try go_simp
                        refine hK _ ?_; clear hK K; refine qWalk_step ?_; intro K hK; go_simp; apply Exists.intro; refine And.intro ?_ ?_
                        · intro w1 hw1
                          obtain ⟨hc, hf, hz⟩ := hw1.facts
                          try simp at hz
                          try go_simp
                          try rfl
                        try go_simp
                        iterate 4
                          refine hK _ ?_; clear hK K; refine qWalk_step ?_; intro K hK; go_simp; apply Exists.intro; refine And.intro ?_ ?_
                          · intro w1 hw1
                            try go_simp
                            try rfl
                          try go_simp
                        refine hK _ ?_; clear hK K; refine qWalk_step ?_; intro K hK; go_simp; apply Exists.intro; refine And.intro ?_ ?_
                        · intro w1 hw1
                          obtain ⟨hc, hf, hz⟩ := hw1.facts
                          try simp at hz
                          try go_simp
                          try rfl
                        try go_simp
                        iterate 3
                          refine hK _ ?_; clear hK K; refine qWalk_step ?_; intro K hK; go_simp; apply Exists.intro; refine And.intro ?_ ?_
                          · intro w1 hw1
                            try go_simp
                            try rfl
                          try go_simp
                        refine hK _ ?_; clear hK K; refine qWalk_step ?_; intro K hK; go_simp; apply Exists.intro; refine And.intro ?_ ?_
                        · intro w1 hw1
                          obtain ⟨hc, hf, hz⟩ := hw1.facts
                          try simp at hz
                          try go_simp
                          try rfl
                        try go_simp
                        refine hK _ ?_; clear hK K; refine qWalk_step ?_; intro K hK; go_simp; apply Exists.intro; refine And.intro ?_ ?_
                        · intro w1 hw1
                          try go_simp
                          try rfl
                        try go_simp
                        refine hK _ ?_; clear hK K; refine qWalk_step ?_; intro K hK; go_simp; apply Exists.intro; refine And.intro ?_ ?_
                        · intro w1 hw1
                          obtain ⟨hc, hf, hz⟩ := hw1.facts
                          try simp at hz
                          try go_simp
                          try rfl
                        try go_simp
                        iterate 2
                          refine hK _ ?_; clear hK K; refine qWalk_step ?_; intro K hK; go_simp; apply Exists.intro; refine And.intro ?_ ?_
                          · intro w1 hw1
                            try go_simp
                            try rfl
                          try go_simp
                        refine hK _ ?_; clear hK K; refine qWalk_nil ?_; intro wA uA
                        have UA := Lib.hid (UJ.out.trans uA)
                        clear uA; go_wp2
                        go_roundw
                        case rel => exact ⟨⟨p + 1, by omega, by first | rfl | go_num, AL⟩, UA.out⟩
                        case measure => (simp [intOf]; try omega)
                      · have ht' : til < et := by omega
                        go_wp2_with fail
                        refine region_qw (by kernel_rfl) (by kernel_rfl) ?_; refine qWalk_step ?_; intro K hK; go_simp; apply Exists.intro; refine And.intro ?_ ?_
                        · intro w1 hw1
                          try go_simp
                          try rfl
                        try go_simp
                        refine hK _ ?_; clear hK K; refine qWalk_step ?_; intro K hK; go_simp; apply Exists.intro; refine And.intro ?_ ?_
                        · intro w1 hw1
                          obtain ⟨hc, hf, hz⟩ := hw1.facts
                          try simp at hz
                          try go_simp
                          try rfl
                        try go_simp
                        iterate 2
                          refine hK _ ?_; clear hK K; refine qWalk_step ?_; intro K hK; go_simp; apply Exists.intro; refine And.intro ?_ ?_
                          · intro w1 hw1
                            try go_simp
                            try rfl
                          try go_simp
                        refine hK _ ?_; clear hK K; refine qWalk_step ?_; intro K hK; go_simp; apply Exists.intro; refine And.intro ?_ ?_
                        · intro w1 hw1
                          obtain ⟨hc, hf, hz⟩ := hw1.facts
                          try simp at hz
                          try go_simp
                          try rfl
                        try go_simp
                        refine hK _ ?_; clear hK K; refine qWalk_step ?_; intro K hK; go_simp; apply Exists.intro; refine And.intro ?_ ?_
                        · intro w1 hw1
                          try go_simp
                          try rfl
                        try go_simp
                        refine hK _ ?_; clear hK K; refine qWalk_step ?_; intro K hK; go_simp; apply Exists.intro; refine And.intro ?_ ?_
                        · intro w1 hw1
                          try go_simp
                          exact up_call hw1 (C.out _)
                        try go_simp
                        iterate 3
                          refine hK _ ?_; clear hK K; refine qWalk_step ?_; intro K hK; go_simp; apply Exists.intro; refine And.intro ?_ ?_
                          · intro w1 hw1
                            try go_simp
                            try rfl
                          try go_simp
                        refine hK _ ?_; clear hK K; refine qWalk_step ?_; intro K hK; go_simp; apply Exists.intro; refine And.intro ?_ ?_
                        · intro w1 hw1
                          obtain ⟨hc, hf, hz⟩ := hw1.facts
                          try simp at hz
                          try go_simp
                          try rfl
                        try go_simp
                        iterate 3
                          refine hK _ ?_; clear hK K; refine qWalk_step ?_; intro K hK; go_simp; apply Exists.intro; refine And.intro ?_ ?_
                          · intro w1 hw1
                            try go_simp
                            try rfl
                          try go_simp
                        refine hK _ ?_; clear hK K; refine qWalk_step ?_; intro K hK; go_simp; apply Exists.intro; refine And.intro ?_ ?_
                        · intro w1 hw1
                          obtain ⟨hc, hf, hz⟩ := hw1.facts
                          try simp at hz
                          try go_simp
                          try rfl
                        try go_simp
                        iterate 4
                          refine hK _ ?_; clear hK K; refine qWalk_step ?_; intro K hK; go_simp; apply Exists.intro; refine And.intro ?_ ?_
                          · intro w1 hw1
                            try go_simp
                            try rfl
                          try go_simp
                        refine hK _ ?_; clear hK K; refine qWalk_step ?_; intro K hK; go_simp; apply Exists.intro; refine And.intro ?_ ?_
                        · intro w1 hw1
                          obtain ⟨hc, hf, hz⟩ := hw1.facts
                          try simp at hz
                          try go_simp
                          try rfl
                        try go_simp
                        iterate 3
                          refine hK _ ?_; clear hK K; refine qWalk_step ?_; intro K hK; go_simp; apply Exists.intro; refine And.intro ?_ ?_
                          · intro w1 hw1
                            try go_simp
                            try rfl
                          try go_simp
                        refine hK _ ?_; clear hK K; refine qWalk_step ?_; intro K hK; go_simp; apply Exists.intro; refine And.intro ?_ ?_
                        · intro w1 hw1
                          obtain ⟨hc, hf, hz⟩ := hw1.facts
                          try simp at hz
                          try go_simp
                          try rfl
                        try go_simp
                        refine hK _ ?_; clear hK K; refine qWalk_step ?_; intro K hK; go_simp; apply Exists.intro; refine And.intro ?_ ?_
                        · intro w1 hw1
                          try go_simp
                          try rfl
                        try go_simp
                        refine hK _ ?_; clear hK K; refine qWalk_step ?_; intro K hK; go_simp; apply Exists.intro; refine And.intro ?_ ?_
                        · intro w1 hw1
                          obtain ⟨hc, hf, hz⟩ := hw1.facts
                          try simp at hz
                          try go_simp
                          try rfl
                        try go_simp
                        iterate 2
                          refine hK _ ?_; clear hK K; refine qWalk_step ?_; intro K hK; go_simp; apply Exists.intro; refine And.intro ?_ ?_
                          · intro w1 hw1
                            try go_simp
                            try rfl
                          try go_simp
                        refine hK _ ?_; clear hK K; refine qWalk_nil ?_; intro wA uA
                        have UA := Lib.hid (UR.out.trans uA)
                        clear uA; go_wp2; go_ret
                        exact ⟨ret_bool (by rw [R2.out, show al = false by rw [S'.out, decide_eq_false (show ¬ et ≤ til by omega)]; simp]), UA.out⟩
                    · go_wp2_with fail
                      refine region_qw (by kernel_rfl) (by kernel_rfl) ?_; refine qWalk_step ?_; intro K hK; go_simp; apply Exists.intro; refine And.intro ?_ ?_
                      · intro w1 hw1
                        try go_simp
                        try rfl
                      try go_simp
                      refine hK _ ?_; clear hK K; refine qWalk_step ?_; intro K hK; go_simp; apply Exists.intro; refine And.intro ?_ ?_
                      · intro w1 hw1
                        obtain ⟨hc, hf, hz⟩ := hw1.facts
                        try simp at hz
                        try go_simp
                        try rfl
                      try go_simp
                      iterate 2
                        refine hK _ ?_; clear hK K; refine qWalk_step ?_; intro K hK; go_simp; apply Exists.intro; refine And.intro ?_ ?_
                        · intro w1 hw1
                          try go_simp
                          try rfl
                        try go_simp
                      refine hK _ ?_; clear hK K; refine qWalk_step ?_; intro K hK; go_simp; apply Exists.intro; refine And.intro ?_ ?_
                      · intro w1 hw1
                        obtain ⟨hc, hf, hz⟩ := hw1.facts
                        try simp at hz
                        try go_simp
                        try rfl
                      try go_simp
                      refine hK _ ?_; clear hK K; refine qWalk_step ?_; intro K hK; go_simp; apply Exists.intro; refine And.intro ?_ ?_
                      · intro w1 hw1
                        try go_simp
                        try rfl
                      try go_simp
                      refine hK _ ?_; clear hK K; refine qWalk_step ?_; intro K hK; go_simp; apply Exists.intro; refine And.intro ?_ ?_
                      · intro w1 hw1
                        try go_simp
                        exact up_call hw1 (C.out _)
                      try go_simp
                      iterate 3
                        refine hK _ ?_; clear hK K; refine qWalk_step ?_; intro K hK; go_simp; apply Exists.intro; refine And.intro ?_ ?_
                        · intro w1 hw1
                          try go_simp
                          try rfl
                        try go_simp
                      refine hK _ ?_; clear hK K; refine qWalk_step ?_; intro K hK; go_simp; apply Exists.intro; refine And.intro ?_ ?_
                      · intro w1 hw1
                        obtain ⟨hc, hf, hz⟩ := hw1.facts
                        try simp at hz
                        try go_simp
                        try rfl
                      try go_simp
                      iterate 3
                        refine hK _ ?_; clear hK K; refine qWalk_step ?_; intro K hK; go_simp; apply Exists.intro; refine And.intro ?_ ?_
                        · intro w1 hw1
                          try go_simp
                          try rfl
                        try go_simp
                      refine hK _ ?_; clear hK K; refine qWalk_step ?_; intro K hK; go_simp; apply Exists.intro; refine And.intro ?_ ?_
                      · intro w1 hw1
                        obtain ⟨hc, hf, hz⟩ := hw1.facts
                        try simp at hz
                        try go_simp
                        try rfl
                      try go_simp
                      iterate 3
                        refine hK _ ?_; clear hK K; refine qWalk_step ?_; intro K hK; go_simp; apply Exists.intro; refine And.intro ?_ ?_
                        · intro w1 hw1
                          try go_simp
                          try rfl
                        try go_simp
                      iterate 10
                        refine hK _ ?_; clear hK K; refine qWalk_step ?_; intro K hK; go_simp
                      apply Exists.intro; refine And.intro ?_ ?_
                      · intro w1 hw1
                        try go_simp
                        try rfl
                      try go_simp
                      refine hK _ ?_; clear hK K; refine qWalk_nil ?_; intro wA uA
                      have UA := Lib.hid (UR.out.trans uA)
                      clear uA; go_wp2; go_ret
                      exact ⟨ret_bool (by rw [R2.out, show al = false by rw [S'.out, decide_eq_false (show ¬ efr = -1 by omega)]; simp]), UA.out⟩
                · have hal : al = true := HP.out.symm.trans (SE.out p (by rw [LE.out]; omega))
                  have i6 : ¬ (p : Int) < k := by omega
                  clear uj; go_wp2; go_ret
                  exact ⟨ret_bool (by rw [R2.out]; first | exact hal.symm | rfl), UR.out⟩
      · have R1 := Lib.hid (show res = false by rw [RB.out, decide_eq_false h6]; simp)
        have j6 : (6 : Int) < k := by omega
        clear RB
        go_enter Try.func35, Try.ntmps35
        go_wp2_with (go_at_call 64; refine (l1In_any _ _ _ _).mono ?_; rintro e w' ⟨rfl, rfl⟩)
        go_ret
        exact ⟨ret_bool R1.out.symm, (Up.refl _).alloc _⟩
    · have hit : inB til 0 99 = false := inB_no.2 ht
      have R1 := Lib.hid (show res = false by rw [RB.out, hit]; simp)
      clear RB ht
      go_enter Try.func35, Try.ntmps35
      go_wp2_with (go_at_call 64; refine (l1In_any _ _ _ _).mono ?_; rintro e w' ⟨rfl, rfl⟩)
      go_ret
      exact ⟨ret_bool R1.out.symm, (Up.refl _).alloc _⟩
  · have hin : inB n 1 4 = false := inB_no.2 hm
    have R1 := Lib.hid (show res = false by rw [RB.out, hin]; simp)
    clear RB hm
    go_enter Try.func35, Try.ntmps35
    go_wp2_with (go_at_call 64; refine (l1In_any _ _ _ _).mono ?_; rintro e w' ⟨rfl, rfl⟩)
    go_ret
    exact ⟨ret_bool R1.out.symm, (Up.refl _).alloc _⟩
end Go.Proofs.Ytakmlfgkppekoaa

/-
  The set of items that a host calls off, in one sentence: a block that is a map by items holds a list of items; made, stored into, kept, gone through in whatever order; no condition is made.
  The least time of a host, in one sentence: going through all that waits is as good as looking at the first; plain lists and numbers.
  What spec.HstLeast returns, in one sentence: the least time of what waits, is called off or is kept, and a time behind all else, -1 for a host that is none; for every host that lies in memory.
-/
import Derived.Maps.RangeWalk
import Derived.Test.YtlkmhmiamdbhcabGreatDLElst10
import Derived.Test.YtlkmhmiamdbhcabGreatDLElst13
import Derived.Test.YtlkmhmiamdbhcabGreatDLElst22
namespace Go.Proofs.YtlkmhmiamdbhcabGreat
set_option maxRecDepth 100000
open Go.RowKit
open Go.Maps (Keyed)
theorem itemLaw : Keyed Tryz.prog 109 :=
  Keyed.of_law (deep_law_laid laidOut_ (m := 3) (by omega) (of_decide_eq_true (by kernel_rfl)) (by kernel_rfl) (by kernel_rfl))
theorem itemCells : Tryz.prog.cellsOf 109 = 7 := by kernel_rfl
theorem evtCells : Tryz.prog.cellsOf 88 = 6 := by kernel_rfl
theorem itemType_ : Tryz.prog.keyType 109 = true := by kernel_rfl
theorem typesMore : 3 ≤ Tryz.prog.types.size := of_decide_eq_true (by kernel_rfl)
theorem wf64 {c : Int} (hc : I64 c) : (Lit.int .i64 c).wf = true := by
  unfold I64 at hc; simp [Lit.wf, IntKind.min, IntKind.max, IntKind.signed, IntKind.bits]
  omega
/-- All seven are of 64 bits. -/
def Rec.ok (r : Rec) : Prop := r.ev.ok ∧ I64 r.s
theorem item_ex (r : Rec) (h : r.ok) : ∃ l, keyOf Tryz.prog 109 r.v = some l := by
  obtain ⟨⟨h0, h1, h2, h3, h4, h5⟩, h6⟩ := h; obtain ⟨n, hn⟩ := Nat.exists_eq_add_of_le typesMore
  have w0 := wf64 h0
  have w1 := wf64 h1
  have w2 := wf64 h2
  have w3 := wf64 h3
  have w4 := wf64 h4
  have w5 := wf64 h5
  have w6 := wf64 h6
  have e : Tryz.prog.types.size + 1 = n + 1 + 1 + 1 + 1 := by omega
  unfold keyOf Rec.v; rw [Tryz.underlying109]; dsimp only; rw [itemType_, e]; simp [Value.formed, Tryz.underlying109, Tryz.underlying88, Tryz.underlying3, itemCells, evtCells, intCells, Program.keyLits, Value.cells, w0, w1, w2, w3, w4, w5, w6]; rw [if_pos (by decide)]
  exact ⟨_, rfl⟩
/-- What an item reads as. -/
def KeyIs (r : Rec) (kl : Lit) : Prop := keyOf Tryz.prog 109 r.v = some kl
theorem KeyIs.inj {a b : Rec} {kl : Lit} (ha : KeyIs a kl) (hb : KeyIs b kl) : a = b := by
  have h := itemLaw.inj ha hb
  obtain ⟨⟨a0, a1, a2, a3, a4, a5⟩, a6⟩ := a; obtain ⟨⟨b0, b1, b2, b3, b4, b5⟩, b6⟩ := b; unfold Rec.v at h; simp at h; obtain ⟨rfl, rfl, rfl, rfl, rfl, rfl, rfl⟩ := h
  rfl
theorem KeyIs.fn {a : Rec} {k l : Lit} (h1 : KeyIs a k) (h2 : KeyIs a l) : k = l := Option.some.inj (Eq.trans (Eq.symm h1) h2)
/-- Block b is a map of at most n entries, whose keys are these. -/
def ISet (w : World) (b n : Nat) (S : List Rec) : Prop :=
  ∃ D : DataW Value, w.ownsMap Tryz.prog 109 valR b n D ∧ Maps.IsMap D ∧ (∀ kl, Maps.has D kl = true → ∃ r, r ∈ S ∧ KeyIs r kl) ∧ ∀ r, r ∈ S → ∀ kl, KeyIs r kl → Maps.has D kl = true
theorem ISet.made (w : World) : ISet (w.alloc (.map #[] 0)) w.heap.size 0 [] :=
  ⟨.map [], World.ownsMap_made w _ _ _, Maps.isMap_empty, fun kl h => by simp [Maps.has] at h, fun r h => by simp at h⟩
theorem ISet.lt {w : World} {b n : Nat} {S : List Rec} (h : ISet w b n S) : b < w.heap.size := by
  obtain ⟨D, h, _⟩ := h
  exact h.lt
theorem ISet.block {w w' : World} {b n : Nat} {S : List Rec} (h : ISet w b n S) (e : w'.heap[b]? = w.heap[b]?) : ISet w' b n S := by
  obtain ⟨D, ⟨es, cl, hb, F, hs, hD⟩, hr⟩ := h
  exact ⟨D, ⟨es, cl, e.trans hb, F, hs, hD⟩, hr⟩
theorem ISet.up {w w' : World} {b n : Nat} {S : List Rec} (h : ISet w b n S) (u : Up w w') : ISet w' b n S := h.block (u.below.block b h.lt)
theorem ISet.store {w : World} {b n : Nat} {S : List Rec} (h : ISet w b n S) (hn : n < maxLen) (r : Rec) (hr : r.ok) (v : Value) :
    ∃ w', (Instr.mapUpdate 132 (.map (some b)) r.v v).run Tryz.prog w = .ok () w' ∧ ISet w' b (n + 1) (S ++ [r]) ∧ Mv b w w' := by
  obtain ⟨D, ho, hm, h1, h2⟩ := h; obtain ⟨l, hl⟩ := item_ex r hr; obtain ⟨w', hrun, ho', ht⟩ := ho.store itemLaw Tryz.underlying132 hn (val := v) (d := .held v) (ps := []) hl rfl; refine ⟨w', hrun, ⟨D.put l (.held v), ho', hm.put _ _, fun kl hk => ?_, fun x hx kl hk => ?_⟩, mapTurned_mv ht⟩
  · by_cases e : kl = l
    · exact ⟨r, by simp, e ▸ hl⟩
    · rw [Maps.has_put_other e] at hk
      obtain ⟨x, hx, hk'⟩ := h1 kl hk
      exact ⟨x, by simp [hx], hk'⟩
  · by_cases e : kl = l
    · subst e
      exact Maps.has_put_same hm (itemLaw.key hl) _
    · rw [Maps.has_put_other e]
      rcases List.mem_append.1 hx with hx | hx
      · exact h2 x hx kl hk
      · simp only [List.mem_singleton] at hx
        subst hx
        exact absurd (hk.fn hl) e
/-- A round over the set, under way. -/
def IRng (w : World) (b r n : Nat) (S : List Rec) (D : DataW Value) (left : Lit → Bool) (cnt : Nat) : Prop :=
  w.ranges Tryz.prog 109 valR b r n D left cnt ∧ ∀ kl, left kl = true → ∃ x, x ∈ S ∧ KeyIs x kl
theorem IRng.left_eq {w : World} {b r n : Nat} {S : List Rec} {D : DataW Value} {left : Lit → Bool} {cnt : Nat} (h : IRng w b r n S D left cnt) : w.rangeLeft b r = cnt := h.1.left_eq
theorem IRng.up {w w' : World} {b r n : Nat} {S : List Rec} {D : DataW Value} {left : Lit → Bool} {cnt : Nat} (h : IRng w b r n S D left cnt) (u : Up w w') : IRng w' b r n S D left cnt :=
  ⟨h.1.kept (row := none) ⟨u.below.os, u.below.tape, u.below.output, u.size, fun i hi _ => u.below.block i hi⟩ (by simp) (by simp), h.2⟩
theorem wpList_range_I {P : Program} (hP : P = Tryz.prog) (w : World) {ops : Array Oper} {rest : List Oper} {o : Oper} {a : Act} {Q : Exit → Act → World → Prop}
    (hg : o.guard = none) (m : Operand) (hop : o.op = Op.range 132 m) (b n : Nat) (S : List Rec) (hm : a.eval m = .map (some b)) (h : ISet w b n S)
    (hK : ∀ w' D, IRng w' b w.heap.size n S D (Maps.has D) (Maps.size D) → (∀ r, r ∈ S → ∀ kl, KeyIs r kl → Maps.has D kl = true) → Up w w' → w'.heap.size = w.heap.size + 1 → wpList P ops Q rest (a.put o.dst (.pointer (some ⟨w.heap.size, 0, none⟩))) w') :
    wpList P ops Q (o :: rest) a w := by
  subst hP; obtain ⟨D, ho, hmap, h1, h2⟩ := h
  exact wpList_range_own w hg m _ hop _ _ itemLaw Tryz.underlying132 valR b n D hm ho fun w' r1 r2 r3 => hK w' D ⟨r1, h1⟩ h2 ((Up.refl w).grown r2 (fun k hk => by cases hk)) r3
theorem wpList_next_I {P : Program} (hP : P = Tryz.prog) (w : World) {ops : Array Oper} {rest : List Oper} {o : Oper} {a : Act} {Q : Exit → Act → World → Prop}
    (hg : o.guard = none) (it : Operand) (hop : o.op = Op.next it false) (b r n : Nat) (S : List Rec) (D : DataW Value) (left : Lit → Bool) (cnt : Nat)
    (hit : a.eval it = .pointer (some ⟨r, 0, none⟩)) (h : IRng w b r n S D left cnt)
    (hDone : (∀ kl, left kl = false) → wpList P ops Q rest (a.put o.dst (.tuple #[.bool false])) w)
    (hMore : ∀ (x : Rec) (v : Value) (kl : Lit) (w' : World) (cnt' : Nat), x ∈ S → KeyIs x kl → left kl = true → IRng w' b r n S D (fun z => left z && !z.sameKey kl) cnt' → cnt' < cnt →
      Mv r w w' → (Instr.entry (.pointer (some ⟨r, 0, none⟩))).run P w' = .ok (.tuple #[x.v, v]) w' → wpList P ops Q rest (a.put o.dst (.tuple #[.bool true, x.v, v])) w') :
    wpList P ops Q (o :: rest) a w := by
  subst hP
  refine wpList_plain hg fun K' hK' => ?_
  unfold Oper.wp; obtain ⟨hrg, hS⟩ := h
  rcases hrg.next itemLaw o.type with ⟨h0, hl, hrun⟩ | ⟨key, v, kl, y, w', cnt', hkey, hlk, hv, hat, hrun, hrg', hlt, hgr, hsz, hen⟩
  · simp [execOp, hop, hit, hrun, Result.andThen]
    exact hK' _ _ (hDone hl)
  · obtain ⟨x, hx, hk⟩ := hS kl hlk
    obtain rfl : key = x.v := itemLaw.inj hkey hk; simp [execOp, hop, hit, hrun, Result.andThen]
    exact hK' _ _ (hMore x v kl w' cnt' hx hk hlk ⟨hrg', fun l hl => hS l (by simp at hl; exact hl.1)⟩ hlt ⟨hgr.os, hgr.tape, hgr.output, hgr.size, fun k hk hne => hgr.block k hk (fun e => hne (by simpa using e))⟩ hen)
/-- What is left behind a step. -/
theorem left_step {left : Lit → Bool} {x y : Rec} {kx ky : Lit} (hx : KeyIs x kx) (hy : KeyIs y ky) (h : (left ky && !ky.sameKey kx) = false) : left ky = false ∨ y = x := by
  cases hl : left ky
  · exact .inl rfl
  · rw [hl] at h
    simp at h
    have := WideAt.sameKey_eq h
    subst this
    exact .inr (hy.inj hx)
end Go.Proofs.YtlkmhmiamdbhcabGreat

namespace Go.Proofs.YtlkmhmiamdbhcabGreat
set_option maxRecDepth 100000
/-- The least of a number and a list. -/
def minL (t : Int) : List Int → Int
  | [] => t
  | x :: r => minL (if x < t then x else t) r
theorem minL_snoc (x : Int) : ∀ (xs : List Int) (t : Int), minL t (xs ++ [x]) = (if x < minL t xs then x else minL t xs)
  | [], _ => rfl
  | _ :: r, _ => minL_snoc x r _
theorem minL_take (t : Int) (xs : List Int) (k : Nat) (h : k < xs.length) : minL t (xs.take (k + 1)) = (if xs.getD k 0 < minL t (xs.take k) then xs.getD k 0 else minL t (xs.take k)) := by
  have e : xs.take (k + 1) = xs.take k ++ [xs.getD k 0] := by
    rw [List.take_add_one]; simp [h]
  rw [e, minL_snoc]
theorem minL_le : ∀ (xs : List Int) (t : Int), minL t xs ≤ t ∧ (∀ y, y ∈ xs → minL t xs ≤ y) ∧ (minL t xs = t ∨ minL t xs ∈ xs)
  | [], t => ⟨Int.le_refl _, fun y h => by simp at h, .inl rfl⟩
  | x :: r, t => by
    obtain ⟨h1, h2, h3⟩ := minL_le r (if x < t then x else t); rw [minL]
    generalize minL (if x < t then x else t) r = q at h1 h2 h3 ⊢
    refine ⟨?_, fun y hy => ?_, ?_⟩
    · split at h1 <;> omega
    · rcases List.mem_cons.1 hy with rfl | hy
      · split at h1 <;> omega
      · exact h2 y hy
    · rcases h3 with h3 | h3
      · rw [h3]
        split
        · exact .inr (by simp)
        · exact .inl rfl
      · exact .inr (List.mem_cons_of_mem _ h3)
/-- What is least is one. -/
theorem minL_one {t a : Int} {xs : List Int} (h1 : a ≤ t) (h2 : ∀ y, y ∈ xs → a ≤ y) (h3 : a = t ∨ a ∈ xs) : a = minL t xs := by
  obtain ⟨k1, k2, k3⟩ := minL_le xs t
  have g1 : minL t xs ≤ a := by
    rcases h3 with rfl | h3
    · exact k1
    · exact k2 a h3
  have g2 : a ≤ minL t xs := by
    rcases k3 with e | e
    · omega
    · exact h2 _ e
  omega
theorem ltR_t {a b : Rec} (h : ltR a b = true) : a.ev.t ≤ b.ev.t := by
  unfold ltR at h; rw [ltT_eq] at h; unfold Rec.itm ltE at h; simp only [Bool.or_eq_true, Bool.and_eq_true, decide_eq_true_eq] at h
  rcases h with h | ⟨h, _⟩
  · unfold cmpE orL at h
    unfold cmpI at h
    split at h <;> omega
  · have e : a.ev = b.ev := by simpa [eqB] using h
    rw [e]
    exact Int.le_refl _
theorem rise_le : ∀ (xs : List Rec) (x : Rec), riseT (x :: xs) = true → ∀ y, y ∈ xs → x.ev.t ≤ y.ev.t
  | [], _, _, y, h => by simp at h
  | z :: r, x, h, y, hy => by
    rw [riseT, Bool.and_eq_true] at h
    have h1 := ltR_t h.1
    rcases List.mem_cons.1 hy with rfl | hy
    · exact h1
    · have := rise_le r z h.2 y hy
      omega
/-- Of a list in order the first is enough. -/
theorem minL_rise (t : Int) (xs : List Rec) (h : riseT xs = true) : minL t (xs.map fun r => r.ev.t) = if 0 < xs.length then (if (xs.getD 0 default).ev.t < t then (xs.getD 0 default).ev.t else t) else t := by
  cases xs with
  | nil => rfl
  | cons x r =>
    rw [if_pos (by simp)]; simp only [List.getD_cons_zero]
    symm
    apply minL_one
    · split <;> omega
    · intro y hy
      obtain ⟨z, hz, rfl⟩ := List.mem_map.1 hy
      rcases List.mem_cons.1 hz with rfl | hz
      · split <;> omega
      · have := rise_le r x h z hz
        split <;> omega
    · split
      · exact .inr (by simp)
      · exact .inl rfl
/-- The least time of what waits, is called off or is kept. -/
def leastH (m : Mdl) (h : Hst) : Int := minL (minL (minL (m.til + 1) (h.wait.map fun r => r.ev.t)) (h.anti.map fun r => r.ev.t)) (h.keep.map fun k => k.sent.ev.t)
theorem item_ok {many til comp : Int} {r : Rec} (h : itemForB many til comp r = true) : r.ok := by
  unfold itemForB itemB takB okB at h; simp only [Bool.and_eq_true, inB_iff, decide_eq_true_eq] at h; unfold Rec.ok Evt.ok I64
  omega
theorem anti_ok {m : Mdl} {comp : Int} {h : Hst} (hb : hostB m comp h = true) : ∀ r, r ∈ h.anti → r.ok := by
  unfold hostB at hb; simp only [Bool.and_eq_true] at hb; intro r hr
  exact item_ok (List.all_eq_true.1 hb.2.2.2.2.1.2 r hr)
end Go.Proofs.YtlkmhmiamdbhcabGreat

namespace Go.Proofs.YtlkmhmiamdbhcabGreat
set_option maxRecDepth 100000
open Go.RowKit
set_option maxHeartbeats 3000000 in
theorem l4Least_any (A : Option Addr) (n c : Nat) (B : Option Addr) (k d : Nat) (til w0 w1 w2 ids : Int) (Ad : Option Addr) (nd cd : Nat) (Aw : Option Addr) (nw cw : Nat) (Aa : Option Addr) (na ca : Nat) (Ak : Option Addr) (nk ck : Nat) (ws vs : List Rec) (ks : List Kep) (w : World) (hW : Recs w Aw nw ws) (hA : Recs w Aa na vs) (hK : Keps w Ak nk ks) (ht : 0 ≤ til ∧ til ≤ 1000000) (hl : nk ≤ 1048576) (r1 : riseT ws = true) (r2 : riseT vs = true) :
    Calls Tryz.prog 27 #[.agg #[.slice A n c, .slice B k d, .int .i64 til], .agg #[.int .i64 w0, .int .i64 w1, .int .i64 w2, .int .i64 ids, .slice Ad nd cd, .slice Aw nw cw, .slice Aa na ca, .slice Ak nk ck]] w fun x w' => x = .returned (.int .i64 (minL (minL (minL (til + 1) (ws.map fun r => r.ev.t)) (vs.map fun r => r.ev.t)) (ks.map fun k => k.sent.ev.t))) ∧ Up w w' := by
  have X1 := Lib.hid ((Blk.new w #[.slice A n c, .slice B k d, .int .i64 til] 39).alloc (.cells #[.int .i64 w0, .int .i64 w1, .int .i64 w2, .int .i64 ids, .slice Ad nd cd, .slice Aw nw cw, .slice Aa na ca, .slice Ak nk ck] 46))
  have X2 := Lib.hid (Blk.new (w.alloc (.cells #[.slice A n c, .slice B k d, .int .i64 til] 39)) #[.int .i64 w0, .int .i64 w1, .int .i64 w2, .int .i64 ids, .slice Ad nd cd, .slice Aw nw cw, .slice Aa na ca, .slice Ak nk ck] 46)
  simp only [World.size_alloc] at X2
  have U0 := Lib.hid (((Up.refl w).alloc (.cells #[.slice A n c, .slice B k d, .int .i64 til] 39)).alloc (.cells #[.int .i64 w0, .int .i64 w1, .int .i64 w2, .int .i64 ids, .slice Ad nd cd, .slice Aw nw cw, .slice Aa na ca, .slice Ak nk ck] 46))
  rw [minL_rise _ ws r1, minL_rise _ vs r2, hW.1, hA.1]
  have HW := Lib.hid (hW.up U0.out)
  have HA := Lib.hid (hA.up U0.out)
  have HK := Lib.hid hK
  obtain ⟨arr, xa, xa7⟩ : ∃ arr, Blk ((w.alloc (.cells #[.slice A n c, .slice B k d, .int .i64 til] 39)).alloc (.cells #[.int .i64 w0, .int .i64 w1, .int .i64 w2, .int .i64 ids, .slice Ad nd cd, .slice Aw nw cw, .slice Aa na ca, .slice Ak nk ck] 46)) (w.heap.size + 1) 46 arr ∧ arr[7]? = some (.slice Ak nk ck) := ⟨_, X2.out, rfl⟩
  have XA := Lib.hid xa
  have XA7 := Lib.hid xa7
  clear xa xa7
  have HL := Lib.hid hl
  have ML := Lib.hid (fun (t : Int) (xs : List Int) k h => minL_take t xs k h)
  generalize hf3 : (ks.map fun k => k.sent.ev.t) = F3
  have E3 := Lib.hid hf3
  have L3 := Lib.hid (show F3.length = nk by rw [← hf3, List.length_map]; exact hK.1)
  have tw : IntKind.i64.wrap (til + 1) = til + 1 := IntWalk.i64_in _ (by omega)
  generalize hp1 : ws.getD 0 default = p1
  generalize hp2 : vs.getD 0 default = p2
  have P1 := Lib.hid hp1
  have P2 := Lib.hid hp2
  generalize hy1 : (if 0 < nw then (if p1.ev.t < til + 1 then p1.ev.t else til + 1) else til + 1) = y1
  generalize hy2 : (if 0 < na then (if p2.ev.t < y1 then p2.ev.t else y1) else y1) = y2
  have Y1 := Lib.hid hy1
  have Y2 := Lib.hid hy2
  clear hW hA hK hl hf3 hp1 hp2 ht r1 r2 hy1 hy2
  go_enter Tryz.func27, Tryz.ntmps27
  have z2 := X1.out.cell (j := 2) rfl
  have zl := X1.out.lt
  have w5 := X2.out.cell (j := 5) rfl
  have w6 := X2.out.cell (j := 6) rfl
  have w7 := X2.out.cell (j := 7) rfl
  have wl := X2.out.lt
  by_cases g1 : 0 < nw
  · have G1 := Lib.hid g1
    obtain ⟨b1, o1, hA1, hb1, hc1⟩ := HW.out.2 g1
    have a1 := hc1 0 g1
    subst hA1
    have Y1e := Lib.hid (Y1.out.symm.trans (if_pos g1))
    rw [P1.out] at a1; obtain ⟨⟨p10, p11, p12, p13, p14, p15⟩, p16⟩ := p1; obtain ⟨v0, -, -, -, -, -, -⟩ := a1; dsimp only at v0 Y1e; simp only [Nat.zero_mul, Nat.add_zero] at v0; clear hc1
    have q1 : (0 : Int) < nw := by omega
    generalize hz1 : (if p10 < til + 1 then p10 else til + 1) = y1b at Y1e
    clear g1; obtain rfl : y1 = y1b := Y1e.out; clear Y1 Y1e
    by_cases g2 : 0 < na
    · have G2 := Lib.hid g2
      obtain ⟨b2, o2, hA2, hb2, hc2⟩ := HA.out.2 g2
      have a2 := hc2 0 g2
      subst hA2
      have Y2e := Lib.hid (Y2.out.symm.trans (if_pos g2))
      rw [P2.out] at a2; obtain ⟨⟨p20, p21, p22, p23, p24, p25⟩, p26⟩ := p2; obtain ⟨u0, -, -, -, -, -, -⟩ := a2; dsimp only at u0 Y2e; simp only [Nat.zero_mul, Nat.add_zero] at u0; clear hc2
      have q2 : (0 : Int) < na := by omega
      generalize hz2 : (if p20 < y1 then p20 else y1) = y2b at Y2e
      obtain rfl : y2 = y2b := Y2e.out; clear g2 Y2 Y2e; go_wp2
      go_loopw [5, 6] (fun t i wr => (∃ q : Nat, q ≤ nk ∧ i = .int .i64 q ∧ t = .int .i64 (minL y2 (F3.take q))) ∧ Blk wr (w.heap.size + 1) 46 arr ∧ Up w wr) (fun _ i _ => nk - (intOf i).toNat)
      case atStart => exact ⟨⟨0, by omega, rfl, rfl⟩, XA.out, U0.out⟩
      case round =>
        obtain ⟨⟨q, hq, rfl, rfl⟩, xr, ur⟩ := hrel
        have UR := Lib.hid ur
        have XR := Lib.hid xr
        have y7 := xr.cell XA7.out
        have y7l := xr.lt
        clear xr ur w5 w6 w7 wl z2 zl
        by_cases hlt : q < nk
        · obtain ⟨b, off, hA, hb, hc⟩ := (HK.out.up UR.out).2 (by omega)
          subst hA
          have a0 := hc q hlt
          have mt := ML.out y2 F3 q (by rw [L3.out]; exact hlt)
          have pt : F3.getD q 0 = (ks.getD q default).sent.ev.t := by
            have e : q < ks.length := by rw [HK.out.1]; exact hlt
            rw [← E3.out]; simp [List.getD, e]
          rw [pt] at mt; clear hc pt
          generalize ks.getD q default = p at a0 mt
          obtain ⟨⟨e0, e1, e2, e3, e4, e5⟩, ⟨⟨e6, e7, e8, e9, e10, e11⟩, e12⟩⟩ := p; obtain ⟨-, -, -, -, -, -, z6, -, -, -, -, -, -⟩ := a0; dsimp only at z6 mt
          generalize minL y2 (F3.take q) = z' at mt ⊢
          have MT := Lib.hid mt
          clear mt
          have hl1 := HL.out
          have i4 : (q : Int) < nk := by omega
          have i6 : IntKind.i64.wrap ((q : Int) + 1) = (q : Int) + 1 := IntWalk.i64_in _ (by omega)
          generalize hy : (if e6 < z' then e6 else z') = y at MT
          clear hl1; go_wp2
          go_roundw
          case rel => exact ⟨⟨q + 1, by omega, by go_num, by rw [MT.out]⟩, XR.out, UR.out⟩
          case measure => simp [intOf]; omega
        · obtain rfl : q = nk := by omega
          have i4 : ¬ (q : Int) < q := by omega
          have LE := Lib.hid (show minL y2 (F3.take q) = minL y2 F3 by rw [List.take_of_length_le (by rw [L3.out]; exact Nat.le_refl _)])
          generalize minL y2 (F3.take q) = res at LE ⊢
          go_wp2; go_ret
          exact ⟨ret_int LE.out, UR.out⟩
    · have G2 := Lib.hid g2
      have q2 : ¬ (0 : Int) < na := by omega
      have Y2e := Lib.hid (Y2.out.symm.trans (if_neg g2))
      obtain rfl : y2 = y1 := Y2e.out; clear g2 Y2 Y2e; go_wp2
      go_loopw [5, 6] (fun t i wr => (∃ q : Nat, q ≤ nk ∧ i = .int .i64 q ∧ t = .int .i64 (minL y2 (F3.take q))) ∧ Blk wr (w.heap.size + 1) 46 arr ∧ Up w wr) (fun _ i _ => nk - (intOf i).toNat)
      case atStart => exact ⟨⟨0, by omega, rfl, rfl⟩, XA.out, U0.out⟩
      case round =>
        obtain ⟨⟨q, hq, rfl, rfl⟩, xr, ur⟩ := hrel
        have UR := Lib.hid ur
        have XR := Lib.hid xr
        have y7 := xr.cell XA7.out
        have y7l := xr.lt
        clear xr ur w5 w6 w7 wl z2 zl
        by_cases hlt : q < nk
        · obtain ⟨b, off, hA, hb, hc⟩ := (HK.out.up UR.out).2 (by omega)
          subst hA
          have a0 := hc q hlt
          have mt := ML.out y2 F3 q (by rw [L3.out]; exact hlt)
          have pt : F3.getD q 0 = (ks.getD q default).sent.ev.t := by
            have e : q < ks.length := by rw [HK.out.1]; exact hlt
            rw [← E3.out]; simp [List.getD, e]
          rw [pt] at mt; clear hc pt
          generalize ks.getD q default = p at a0 mt
          obtain ⟨⟨e0, e1, e2, e3, e4, e5⟩, ⟨⟨e6, e7, e8, e9, e10, e11⟩, e12⟩⟩ := p; obtain ⟨-, -, -, -, -, -, z6, -, -, -, -, -, -⟩ := a0; dsimp only at z6 mt
          generalize minL y2 (F3.take q) = z' at mt ⊢
          have MT := Lib.hid mt
          clear mt
          have hl1 := HL.out
          have i4 : (q : Int) < nk := by omega
          have i6 : IntKind.i64.wrap ((q : Int) + 1) = (q : Int) + 1 := IntWalk.i64_in _ (by omega)
          generalize hy : (if e6 < z' then e6 else z') = y at MT
          clear hl1; go_wp2
          go_roundw
          case rel => exact ⟨⟨q + 1, by omega, by go_num, by rw [MT.out]⟩, XR.out, UR.out⟩
          case measure => simp [intOf]; omega
        · obtain rfl : q = nk := by omega
          have i4 : ¬ (q : Int) < q := by omega
          have LE := Lib.hid (show minL y2 (F3.take q) = minL y2 F3 by rw [List.take_of_length_le (by rw [L3.out]; exact Nat.le_refl _)])
          generalize minL y2 (F3.take q) = res at LE ⊢
          go_wp2; go_ret
          exact ⟨ret_int LE.out, UR.out⟩
  · have G1 := Lib.hid g1
    have q1 : ¬ (0 : Int) < nw := by omega
    have Y1e := Lib.hid (Y1.out.symm.trans (if_neg g1))
    clear g1; obtain rfl : y1 = til + 1 := Y1e.out; clear Y1 Y1e
    by_cases g2 : 0 < na
    · have G2 := Lib.hid g2
      obtain ⟨b2, o2, hA2, hb2, hc2⟩ := HA.out.2 g2
      have a2 := hc2 0 g2
      subst hA2
      have Y2e := Lib.hid (Y2.out.symm.trans (if_pos g2))
      rw [P2.out] at a2; obtain ⟨⟨p20, p21, p22, p23, p24, p25⟩, p26⟩ := p2; obtain ⟨u0, -, -, -, -, -, -⟩ := a2; dsimp only at u0 Y2e; simp only [Nat.zero_mul, Nat.add_zero] at u0; clear hc2
      have q2 : (0 : Int) < na := by omega
      generalize hz2 : (if p20 < (til + 1) then p20 else (til + 1)) = y2b at Y2e
      obtain rfl : y2 = y2b := Y2e.out; clear g2 Y2 Y2e; go_wp2
      go_loopw [5, 6] (fun t i wr => (∃ q : Nat, q ≤ nk ∧ i = .int .i64 q ∧ t = .int .i64 (minL y2 (F3.take q))) ∧ Blk wr (w.heap.size + 1) 46 arr ∧ Up w wr) (fun _ i _ => nk - (intOf i).toNat)
      case atStart => exact ⟨⟨0, by omega, rfl, rfl⟩, XA.out, U0.out⟩
      case round =>
        obtain ⟨⟨q, hq, rfl, rfl⟩, xr, ur⟩ := hrel
        have UR := Lib.hid ur
        have XR := Lib.hid xr
        have y7 := xr.cell XA7.out
        have y7l := xr.lt
        clear xr ur w5 w6 w7 wl z2 zl
        by_cases hlt : q < nk
        · obtain ⟨b, off, hA, hb, hc⟩ := (HK.out.up UR.out).2 (by omega)
          subst hA
          have a0 := hc q hlt
          have mt := ML.out y2 F3 q (by rw [L3.out]; exact hlt)
          have pt : F3.getD q 0 = (ks.getD q default).sent.ev.t := by
            have e : q < ks.length := by rw [HK.out.1]; exact hlt
            rw [← E3.out]; simp [List.getD, e]
          rw [pt] at mt; clear hc pt
          generalize ks.getD q default = p at a0 mt
          obtain ⟨⟨e0, e1, e2, e3, e4, e5⟩, ⟨⟨e6, e7, e8, e9, e10, e11⟩, e12⟩⟩ := p; obtain ⟨-, -, -, -, -, -, z6, -, -, -, -, -, -⟩ := a0; dsimp only at z6 mt
          generalize minL y2 (F3.take q) = z' at mt ⊢
          have MT := Lib.hid mt
          clear mt
          have hl1 := HL.out
          have i4 : (q : Int) < nk := by omega
          have i6 : IntKind.i64.wrap ((q : Int) + 1) = (q : Int) + 1 := IntWalk.i64_in _ (by omega)
          generalize hy : (if e6 < z' then e6 else z') = y at MT
          clear hl1; go_wp2
          go_roundw
          case rel => exact ⟨⟨q + 1, by omega, by go_num, by rw [MT.out]⟩, XR.out, UR.out⟩
          case measure => simp [intOf]; omega
        · obtain rfl : q = nk := by omega
          have i4 : ¬ (q : Int) < q := by omega
          have LE := Lib.hid (show minL y2 (F3.take q) = minL y2 F3 by rw [List.take_of_length_le (by rw [L3.out]; exact Nat.le_refl _)])
          generalize minL y2 (F3.take q) = res at LE ⊢
          go_wp2; go_ret
          exact ⟨ret_int LE.out, UR.out⟩
    · have G2 := Lib.hid g2
      have q2 : ¬ (0 : Int) < na := by omega
      have Y2e := Lib.hid (Y2.out.symm.trans (if_neg g2))
      obtain rfl : y2 = (til + 1) := Y2e.out; clear g2 Y2 Y2e; go_wp2
      go_loopw [5, 6] (fun t i wr => (∃ q : Nat, q ≤ nk ∧ i = .int .i64 q ∧ t = .int .i64 (minL (til + 1) (F3.take q))) ∧ Blk wr (w.heap.size + 1) 46 arr ∧ Up w wr) (fun _ i _ => nk - (intOf i).toNat)
      case atStart => exact ⟨⟨0, by omega, rfl, rfl⟩, XA.out, U0.out⟩
      case round =>
        obtain ⟨⟨q, hq, rfl, rfl⟩, xr, ur⟩ := hrel
        have UR := Lib.hid ur
        have XR := Lib.hid xr
        have y7 := xr.cell XA7.out
        have y7l := xr.lt
        clear xr ur w5 w6 w7 wl z2 zl
        by_cases hlt : q < nk
        · obtain ⟨b, off, hA, hb, hc⟩ := (HK.out.up UR.out).2 (by omega)
          subst hA
          have a0 := hc q hlt
          have mt := ML.out (til + 1) F3 q (by rw [L3.out]; exact hlt)
          have pt : F3.getD q 0 = (ks.getD q default).sent.ev.t := by
            have e : q < ks.length := by rw [HK.out.1]; exact hlt
            rw [← E3.out]; simp [List.getD, e]
          rw [pt] at mt; clear hc pt
          generalize ks.getD q default = p at a0 mt
          obtain ⟨⟨e0, e1, e2, e3, e4, e5⟩, ⟨⟨e6, e7, e8, e9, e10, e11⟩, e12⟩⟩ := p; obtain ⟨-, -, -, -, -, -, z6, -, -, -, -, -, -⟩ := a0; dsimp only at z6 mt
          generalize minL (til + 1) (F3.take q) = z' at mt ⊢
          have MT := Lib.hid mt
          clear mt
          have hl1 := HL.out
          have i4 : (q : Int) < nk := by omega
          have i6 : IntKind.i64.wrap ((q : Int) + 1) = (q : Int) + 1 := IntWalk.i64_in _ (by omega)
          generalize hy : (if e6 < z' then e6 else z') = y at MT
          clear hl1; go_wp2
          go_roundw
          case rel => exact ⟨⟨q + 1, by omega, by go_num, by rw [MT.out]⟩, XR.out, UR.out⟩
          case measure => simp [intOf]; omega
        · obtain rfl : q = nk := by omega
          have i4 : ¬ (q : Int) < q := by omega
          have LE := Lib.hid (show minL (til + 1) (F3.take q) = minL (til + 1) F3 by rw [List.take_of_length_le (by rw [L3.out]; exact Nat.le_refl _)])
          generalize minL (til + 1) (F3.take q) = res at LE ⊢
          go_wp2; go_ret
          exact ⟨ret_int LE.out, UR.out⟩
set_option maxHeartbeats 3000000 in
theorem specHstLeast_any (A : Option Addr) (n c : Nat) (B : Option Addr) (k d : Nat) (m : Mdl) (comp w0 w1 w2 ids : Int) (Ad : Option Addr) (nd cd : Nat) (Aw : Option Addr) (nw cw : Nat) (Aa : Option Addr) (na ca : Nat) (Ak : Option Addr) (nk ck : Nat) (ds : List Don) (ws vs : List Rec) (ks : List Kep) (w : World) (hM : MdlV w A n B k m) (hD : Dons w Ad nd ds) (hW : Recs w Aw nw ws) (hA : Recs w Aa na vs) (hK : Keps w Ak nk ks) (hl : nd ≤ 1048576 ∧ nw ≤ 1048576 ∧ na ≤ 1048576 ∧ nk ≤ 1048576) (hS : SmallD ds) :
    Calls Tryz.prog 7 #[.agg #[.slice A n c, .slice B k d, .int .i64 m.til], .int .i64 comp, .agg #[.int .i64 w0, .int .i64 w1, .int .i64 w2, .int .i64 ids, .slice Ad nd cd, .slice Aw nw cw, .slice Aa na ca, .slice Ak nk ck]] w fun x w' => x = .returned (.int .i64 (if (mdlB m && hostB m comp (⟨⟨w0, w1, w2⟩, ids, ds, ws, vs, ks⟩ : Hst)) = true then leastH m (⟨⟨w0, w1, w2⟩, ids, ds, ws, vs, ks⟩ : Hst) else -1)) ∧ Up w w' := by
  have RI := Lib.hid (show (mdlB m && hostB m comp (⟨⟨w0, w1, w2⟩, ids, ds, ws, vs, ks⟩ : Hst)) = true → riseT ws = true ∧ riseT vs = true ∧ 0 ≤ m.til ∧ m.til ≤ 1000000 from fun h => by
    rw [← hostS_eq] at h; unfold hostS itemsB at h; simp only [Bool.and_eq_true] at h; obtain ⟨h1, _, _, _, h5, h6, _⟩ := h
    have := mdlB_til h1
    exact ⟨h5.1, h6.1, by omega, by omega⟩)
  have CN := Lib.hid (fun W (u : Up w W) => specHstOk_any A n c B k d m comp w0 w1 w2 ids Ad nd cd Aw nw cw Aa na ca Ak nk ck ds ws vs ks W (hM.up u) (hD.up u) (hW.up u) (hA.up u) (hK.up u) hl hS)
  have CL := Lib.hid (fun W (u : Up w W) h1 h2 h3 => l4Least_any A n c B k d m.til w0 w1 w2 ids Ad nd cd Aw nw cw Aa na ca Ak nk ck ws vs ks W (hW.up u) (hA.up u) (hK.up u) h1 hl.2.2.2 h2 h3)
  simp only [hostS_eq] at CN
  have R0 := Lib.hid (show (mdlB m && hostB m comp (⟨⟨w0, w1, w2⟩, ids, ds, ws, vs, ks⟩ : Hst)) = false → -1 = (if (mdlB m && hostB m comp (⟨⟨w0, w1, w2⟩, ids, ds, ws, vs, ks⟩ : Hst)) = true then leastH m (⟨⟨w0, w1, w2⟩, ids, ds, ws, vs, ks⟩ : Hst) else -1) from fun h => by rw [h]; rfl)
  have R1 := Lib.hid (show (mdlB m && hostB m comp (⟨⟨w0, w1, w2⟩, ids, ds, ws, vs, ks⟩ : Hst)) = true → leastH m (⟨⟨w0, w1, w2⟩, ids, ds, ws, vs, ks⟩ : Hst) = (if (mdlB m && hostB m comp (⟨⟨w0, w1, w2⟩, ids, ds, ws, vs, ks⟩ : Hst)) = true then leastH m (⟨⟨w0, w1, w2⟩, ids, ds, ws, vs, ks⟩ : Hst) else -1) from fun h => by rw [h]; rfl)
  generalize (if (mdlB m && hostB m comp (⟨⟨w0, w1, w2⟩, ids, ds, ws, vs, ks⟩ : Hst)) = true then leastH m (⟨⟨w0, w1, w2⟩, ids, ds, ws, vs, ks⟩ : Hst) else -1) = res at R0 R1 ⊢
  generalize (mdlB m && hostB m comp (⟨⟨w0, w1, w2⟩, ids, ds, ws, vs, ks⟩ : Hst)) = hb at CN R0 R1 RI
  have X1 := Lib.hid ((Blk.new w #[.slice A n c, .slice B k d, .int .i64 m.til] 39).alloc (.cells #[.int .i64 w0, .int .i64 w1, .int .i64 w2, .int .i64 ids, .slice Ad nd cd, .slice Aw nw cw, .slice Aa na ca, .slice Ak nk ck] 46))
  have X2 := Lib.hid (Blk.new (w.alloc (.cells #[.slice A n c, .slice B k d, .int .i64 m.til] 39)) #[.int .i64 w0, .int .i64 w1, .int .i64 w2, .int .i64 ids, .slice Ad nd cd, .slice Aw nw cw, .slice Aa na ca, .slice Ak nk ck] 46)
  simp only [World.size_alloc] at X2
  have U := Lib.hid (((Up.refl w).alloc (.cells #[.slice A n c, .slice B k d, .int .i64 m.til] 39)).alloc (.cells #[.int .i64 w0, .int .i64 w1, .int .i64 w2, .int .i64 ids, .slice Ad nd cd, .slice Aw nw cw, .slice Aa na ca, .slice Ak nk ck] 46))
  clear hM hD hW hA hK hl hS
  go_enter Tryz.func7, Tryz.ntmps7
  go_wp2_with fail
  refine (CN.out _ U.out).mono ?_; rintro x wN ⟨rfl, u1⟩
  have U1 := Lib.hid (U.out.trans u1)
  replace X1 := Lib.hid (X1.out.up u1)
  replace X2 := Lib.hid (X2.out.up u1)
  clear u1
  cases hb
  · go_wp2
    go_ret
    exact ⟨ret_int (R0.out (by first | trivial | rfl)), U1.out⟩
  · have RR := Lib.hid (RI.out rfl)
    have x0 := X1.out.cell (j := 0) rfl
    have x1 := X1.out.cell (j := 1) rfl
    have x2 := X1.out.cell (j := 2) rfl
    have xl := X1.out.lt
    have z0 := X2.out.cell (j := 0) rfl
    have z1 := X2.out.cell (j := 1) rfl
    have z2 := X2.out.cell (j := 2) rfl
    have z3 := X2.out.cell (j := 3) rfl
    have z4 := X2.out.cell (j := 4) rfl
    have z5 := X2.out.cell (j := 5) rfl
    have z6 := X2.out.cell (j := 6) rfl
    have z7 := X2.out.cell (j := 7) rfl
    have lz := X2.out.lt
    go_wp2_with fail
    clear x0 x1 x2 xl z0 z1 z2 z3 z4 z5 z6 z7 lz; refine (CL.out _ U1.out RR.out.2.2 RR.out.1 RR.out.2.1).mono ?_; rintro x w3 ⟨rfl, u3⟩
    have U3 := Lib.hid (U1.out.trans u3)
    have RES := Lib.hid (R1.out (by first | trivial | rfl))
    unfold leastH at RES; dsimp only at RES; clear u3; go_wp2; go_ret
    exact ⟨ret_int RES.out, U3.out⟩
end Go.Proofs.YtlkmhmiamdbhcabGreat

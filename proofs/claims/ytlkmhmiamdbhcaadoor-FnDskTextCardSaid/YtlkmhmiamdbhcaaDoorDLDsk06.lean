/-
  What numeral and lineFormat.line of the program return, in one sentence: the pieces of the format with the numbers between them; for every format of few pieces.
  What the lists of variables give, in one sentence: the tables that the text interface reads hold what the program's text lays; and a world that holds them; no condition is made.
  A line of an action says one action, in one sentence: its last word's number, its first word, and what is behind it; for every string.
  What strconv.Atoi and the last space give here, in one sentence: the number beside the error, or the string's own; for every string of at most two million bytes, where the two errors' variables hold errors.
-/
import Derived.Deep.DeepHandedRow
import Derived.Lib.AppendIntMem
import Derived.Lib.AtoiTie
import Derived.Lib.ItoaNum
import Derived.Lib.LaidTab
import Derived.OpenShut
import Derived.OpenVars
import Derived.ProofKit
import Derived.Shelf.Strings.LastIndexAll
import Derived.Test.YtlkmhmiamdbhcaaDoorDLDsk01
import Derived.Test.YtlkmhmiamdbhcaaDoorDLDsk04
import Derived.Test.YtlkmhmiamdbhcaaDoorDLDsk05
import Derived.Test.YtlkmhmiamdbhcaaDoorTie
import Derived.WalkSmall
namespace Go.Proofs.YtlkmhmiamdbhcaaDoor
set_option maxRecDepth 100000
open Go.RowKit
/-- The formats' cells. -/
def fmtCells : List Value := [.string ⟨([] : List UInt8).toArray⟩, .int .i64 0, .string ⟨([100, 111, 32, 35] : List UInt8).toArray⟩, .int .i64 999, .string ⟨([104, 101, 97, 114, 32, 35] : List UInt8).toArray⟩, .int .i64 999, .string ⟨([98, 101, 103, 105, 110] : List UInt8).toArray⟩, .int .i64 0, .string ⟨([118, 105, 115, 105, 116] : List UInt8).toArray⟩, .int .i64 0, .string ⟨([102, 114, 101, 101, 32, 35] : List UInt8).toArray⟩, .int .i64 999, .string ⟨([97, 116, 32, 35, 32, 116, 111, 32, 35, 32, 102, 114, 111, 109, 32, 35, 32, 107, 105, 110, 100, 32, 35, 32, 100, 97, 116, 97, 32, 35, 32, 116, 104, 101, 110, 32, 35] : List UInt8).toArray⟩, .int .i64 0, .string ⟨([98, 111, 117, 110, 100, 32, 35, 32, 111, 110, 32, 105, 116, 115, 32, 119, 97, 121, 32, 35] : List UInt8).toArray⟩, .int .i64 0, .string ⟨([104, 111, 115, 116, 32, 35, 32, 100, 111, 110, 101, 32, 35, 32, 119, 97, 105, 116, 115, 32, 35, 32, 99, 97, 108, 108, 101, 100, 32, 111, 102, 102, 32, 35, 32, 107, 101, 112, 116, 32, 35] : List UInt8).toArray⟩, .int .i64 0, .string ⟨([108, 105, 110, 101, 32, 35] : List UInt8).toArray⟩, .int .i64 0, .string ⟨([109, 111, 100, 101, 108] : List UInt8).toArray⟩, .int .i64 0, .string ⟨([108, 111, 110, 103] : List UInt8).toArray⟩, .int .i64 0]
/-- What lies in the variables that are read. -/
structure Tabs (w : World) : Prop where
  ml : ∃ m, w.cell? ⟨1, 0, none⟩ = some (.int .i64 m)
  pow : Lib.TabIs Tryd.prog w "internal/strconv.uint64pow10" .u64 Lib.pow10Tab
  fm : ∀ (j : Nat) (u : Value), fmtCells[j]? = some u → w.cell? ⟨0, j, none⟩ = some u
theorem gPow : Tryd.prog.globalNamed "internal/strconv.uint64pow10" = some 6 := by kernel_rfl
theorem Tabs.up {w w' : World} (h : Tabs w) (u : Up w w') : Tabs w' := by
  obtain ⟨⟨m, hm⟩, hp, hf⟩ := h
  have l1 := World.block_lt_of_cell? _ _ hm
  have l0 := World.block_lt_of_cell? _ _ (hf 0 _ rfl)
  have l6 := World.block_lt_of_cell? _ _ (hp.cell gPow 0 (by decide))
  exact ⟨⟨m, (u.cells _ _ l1).trans hm⟩, var?_below u.below gPow l6 hp, fun j u' hj => (u.cells _ _ l0).trans (hf j u' hj)⟩
theorem numeral_any (n : Int) (hn : n ≤ 999) (w : World) (ht : Tabs w) : Calls Tryd.prog 39 #[.int .i64 n] w fun x w' => x = .returned (.string ⟨(plainS n).toArray⟩) ∧ Up w w' := by
  by_cases h0 : n < 0
  · have HP := Lib.hid (show (⟨#[45]⟩ : ByteArray) = ⟨(plainS n).toArray⟩ by rw [show plainS n = [45] from if_pos h0])
    go_enter Tryd.func39, Tryd.ntmps39
    go_wp2; go_ret
    exact ⟨ret_str HP.out, Up.refl _⟩
  · have HP := Lib.hid (show (⟨(Lib.itoa n).toArray⟩ : ByteArray) = ⟨(plainS n).toArray⟩ by rw [show plainS n = Lib.decDigits n.toNat from if_neg h0, show Lib.itoa n = Lib.decDigits n.toNat from if_neg h0])
    have CI := Lib.hid (Tryd.strconv_Itoa n (by omega) (by omega) w ht.pow)
    clear ht
    go_enter Tryd.func39, Tryd.ntmps39
    go_wp2_with fail
    refine CI.out.mono ?_; rintro x w1 ⟨rfl, k, os, rfl⟩
    have U := Lib.hid (show Up w (Sort.grow (w.drewN k) os) from Lib.below_grow _ _ (Nat.le_refl _) k os)
    generalize Sort.grow (w.drewN k) os = w1 at U ⊢
    go_wp2; go_ret
    exact ⟨ret_str HP.out, U.out⟩
/-- The numbers and the pieces behind them. -/
def joinS : List (List UInt8) → List Int → List UInt8
  | p :: ps, n :: ns => plainS n ++ (p ++ joinS ps ns)
  | _, _ => []
theorem joinS_take (ps : List (List UInt8)) (ns : List Int) (k : Nat) (h1 : k < ps.length) (h2 : k < ns.length) : joinS (ps.take (k + 1)) ns = joinS (ps.take k) ns ++ (plainS (ns.getD k 0) ++ ps.getD k []) := by
  induction ps generalizing ns k with
  | nil => simp at h1
  | cons p ps ih =>
    cases ns with
    | nil => simp at h2
    | cons n ns =>
      cases k with
      | zero => simp [joinS]
      | succ k =>
        simp only [List.take_succ_cons, joinS, List.getD_cons_succ]; rw [ih ns k (by simpa using h1) (by simpa using h2)]; simp
theorem joinS_len (ps : List (List UInt8)) (ns : List Int) (h1 : ∀ n, n ∈ ns → n ≤ 999) (h2 : ∀ p, p ∈ ps → p.length ≤ 1000) : (joinS ps ns).length ≤ ps.length * 1003 := by
  induction ps generalizing ns with
  | nil => cases ns <;> simp [joinS]
  | cons p ps ih =>
    cases ns with
    | nil => simp [joinS]
    | cons n ns =>
      have a := ih ns (fun x hx => h1 x (List.mem_cons_of_mem _ hx)) (fun x hx => h2 x (List.mem_cons_of_mem _ hx))
      have b := plain_short3 n (h1 n (by simp))
      have c := h2 p (by simp)
      simp only [joinS, List.length_append, List.length_cons]
      omega
set_option maxHeartbeats 2000000 in
theorem line_any (wd : ByteArray) (top : Int) (P0 : List UInt8) (Ps : List (List UInt8)) (q nn cc : Nat) (ns : List Int) (w : World) (hw : wd.size < 1000) (hcn : Lib.countB wd ⟨#[35]⟩ = Ps.length)
    (hsp : (Lib.splitB ⟨#[35]⟩ 0 Ps.length wd).map Value.string = (P0 :: Ps).map (fun p => Value.string ⟨p.toArray⟩)) (ht : Tabs w) (hnn : ns.length = nn) (hle : Ps.length ≤ nn) (hfew : nn ≤ 50) (hq : q < w.heap.size)
    (hN : ∀ i, i < nn → w.cell? ⟨q, i, none⟩ = some (.int .i64 (ns.getD i 0))) (hb : ∀ n, n ∈ ns → n ≤ 999) (hp : ∀ p, p ∈ P0 :: Ps → p.length ≤ 1000) :
    Calls Tryd.prog 25 #[.agg #[.string wd, .int .i64 top], .slice (some ⟨q, 0, none⟩) nn cc] w fun x w' => x = .returned (.string ⟨(P0 ++ joinS Ps ns).toArray⟩) ∧ Up w w' := by
  have U0 := Lib.hid ((Up.refl w).alloc (.cells #[.string wd, .int .i64 top] 53))
  have CS := Lib.hid (fun W (u : Up w W) => by
    obtain ⟨m, hm⟩ := (ht.up u).ml
    have := Tryd.strings_Split wd ⟨#[35]⟩ m W (by omega) hm (by decide)
    rw [hcn, hsp] at this
    exact this)
  have CN := Lib.hid (fun n (hn : n ≤ 999) W (u : Up w W) => numeral_any n hn W (ht.up u))
  have NL := Lib.hid hnn
  have NC := Lib.hid (fun i hi W (u : Up w W) => ((u.cells q i hq).trans (hN i hi)))
  have QL := Lib.hid hq
  have NB := Lib.hid (fun i (hi : i < nn) => hb (ns.getD i 0) (by rw [show ns.getD i 0 = ns[i]'(by omega) by simp [List.getD, show i < ns.length by omega]]; exact List.getElem_mem _))
  have PB := Lib.hid (fun p (h : p ∈ Ps) => hp p (List.mem_cons_of_mem _ h))
  have PB0 := Lib.hid (hp P0 (by simp))
  have JT := Lib.hid (fun k h1 h2 => joinS_take Ps ns k h1 h2)
  have JL := Lib.hid (fun k => joinS_len (Ps.take k) ns hb (fun p h => hp p (List.mem_cons_of_mem _ (List.mem_of_mem_take h))))
  clear hw hcn hsp ht hN hb hp hnn
  go_enter Tryd.func25, Tryd.ntmps25
  go_wp2_with fail
  refine (CS.out _ U0.out).mono ?_; rintro x w1 ⟨rfl, hw1⟩
  have U1 := Lib.hid (hw1 ▸ (U0.out.alloc _) : Up w w1)
  have B1 := Lib.hid (show w1.heap[w.heap.size + 1]? = some (.cells ((P0 :: Ps).map (fun p => Value.string ⟨p.toArray⟩)).toArray 9 (0, 0)) by
    rw [hw1]
    have := heap_alloc_new (w.alloc (.cells #[.string wd, .int .i64 top] 53)) (.cells ((P0 :: Ps).map (fun p => Value.string ⟨p.toArray⟩)).toArray 9)
    simpa using this)
  simp only [World.size_alloc]
  generalize hg : w.heap.size + 1 = g at *
  clear hw1
  have H0 := Lib.hid (fun W (u : Up w1 W) i (h : i < Ps.length + 1) => show W.cell? ⟨g, i, none⟩ = some (.string ⟨((P0 :: Ps).getD i []).toArray⟩) from by
    rw [u.cells g i (Array.getElem?_eq_some_iff.1 B1.out).1, cell_of_row _ _ i _ _ _ B1.out]; rw [List.getElem?_toArray, List.getElem?_map, List.getElem?_eq_getElem (show i < (P0 :: Ps).length by simpa using h), Option.map_some]
    simp [List.getD, h])
  have GL := Lib.hid (Array.getElem?_eq_some_iff.1 B1.out).1
  have c0 := H0.out w1 (Up.refl _) 0 (by omega)
  simp only [List.getD_cons_zero] at c0
  have gl := GL.out
  have i0 : (0 : Int) < (Ps.length : Int) + 1 := by omega
  go_wp2_with fail
  refine (bdWrite_any w1.heap.size w1.heap.size [] P0 _ (bdFresh_any w1) (by have := PB0.out; simp; omega) (by simp)).mono ?_; rintro x w2 ⟨⟨v2, rfl⟩, hb2, bl2⟩
  have UB := Lib.hid (show Up w1 w2 from ((Up.refl w1).alloc (.cells #[.pointer none, .slice none 0 0] 86)).below.trans bl2)
  have BD := Lib.hid hb2
  have hbl : w1.heap.size < w2.heap.size := hb2.elim (fun h => h.lt) (fun h => h.lt)
  have BL := Lib.hid hbl
  generalize hbb : w1.heap.size = b at *
  clear hb2 bl2 hbl c0 gl; simp only [List.nil_append] at BD
  have US : b = w1.heap.size := hbb.symm
  have BE := Lib.hid US
  clear US hbb
  by_cases hz : Ps = []
  · subst hz
    go_wp2_with fail
    go_loopw [19] (fun i wr => i = .int .i64 0 ∧ wr = w2) (fun _ _ => 0)
    case atStart => exact ⟨rfl, rfl⟩
    case round =>
      obtain ⟨rfl, rfl⟩ := hrel
      go_wp2_with fail
      refine (Tryd.Builder_String_any b b P0 _ BD.out (Nat.le_of_lt BL.out)).mono ?_; rintro x w6 ⟨rfl, bl6⟩
      have U6 := Lib.hid (U1.out.trans (UB.out.below.trans (BE.out ▸ bl6) : Up w1 w6))
      have EP := Lib.hid (show (⟨P0.toArray⟩ : ByteArray) = ⟨(P0 ++ joinS [] ns).toArray⟩ by simp [joinS])
      clear bl6; go_wp2; go_ret
      exact ⟨ret_str EP.out, U6.out⟩
  go_wp2_with fail
  go_loopw [19] (fun i wr => (∃ k : Nat, k ≤ Ps.length ∧ i = .int .i64 k ∧ Bdr b b (P0 ++ joinS (Ps.take k) ns) wr) ∧ Up w1 wr ∧ b < wr.heap.size) (fun i _ => Ps.length - (intOf i).toNat)
  case atStart => exact ⟨⟨0, by omega, rfl, by simpa [joinS] using BD.out⟩, UB.out, BL.out⟩
  case round =>
    obtain ⟨⟨k, hk, rfl, hbd⟩, ur, hbr⟩ := hrel
    have UR := Lib.hid ur
    have BR := Lib.hid hbd
    have LR := Lib.hid hbr
    have LEN := Lib.hid (show (P0 ++ joinS (Ps.take k) ns).length ≤ 100000 by
      have h1 := JL.out k
      have h2 := PB0.out
      have h3 := List.length_take_le k Ps
      rw [List.length_append]
      omega)
    clear hbd ur hbr BD UB BL
    by_cases hlt : k < Ps.length
    · have c1 := H0.out wr UR.out (k + 1) (by omega)
      have c2 := NC.out k (by omega) wr (U1.out.trans UR.out)
      have n9 := NB.out k (by omega)
      have jt := JT.out k hlt (by rw [NL.out]; omega)
      have pb := PB.out (Ps.getD k []) (by rw [show Ps.getD k [] = Ps[k] by simp [List.getD, hlt]]; exact List.getElem_mem _)
      simp only [List.getD_cons_succ] at c1
      generalize Ps.getD k [] = p at c1 jt pb
      have c1' := c1
      rw [Nat.add_comm k 1] at c1'
      generalize ns.getD k 0 = n at c2 n9 jt
      have JTq := Lib.hid jt
      have PBq := Lib.hid pb
      have CNq := Lib.hid (fun W (u : Up w W) => CN.out n n9 W u)
      have PSq := Lib.hid (plain_short3 n n9)
      have gl : g < wr.heap.size := Nat.lt_of_lt_of_le GL.out (by rw [BE.out]; exact UR.out.size)
      have ql : q < wr.heap.size := Nat.lt_of_lt_of_le QL.out (U1.out.trans UR.out).size
      have i4 : (k : Int) < Ps.length := by omega
      have i5 : (k : Int) < nn := by omega
      have i6 : IntKind.i64.wrap ((k : Int) + 1) = (k : Int) + 1 := IntWalk.i64_in _ (by omega)
      clear jt pb n9
      go_wp2_with fail
      clear c1 c1' c2 gl ql; refine (CNq.out _ (U1.out.trans UR.out)).mono ?_; rintro x w3 ⟨rfl, u3⟩
      have B3 := Lib.hid (BR.out.below u3.below)
      have U3 := Lib.hid (UR.out.trans u3)
      have L3 := Lib.hid (Nat.lt_of_lt_of_le LR.out u3.size)
      clear u3
      go_wp2_with fail
      refine (bdWrite_any b b _ (plainS n) w3 B3.out (by have := LEN.out; have := PSq.out; omega) (Nat.le_of_lt L3.out)).mono ?_; rintro x w4 ⟨⟨v4, rfl⟩, hb4, bl4⟩
      have B4 := Lib.hid hb4
      have U4 := Lib.hid (show Up w1 w4 from U3.out.below.trans (BE.out ▸ bl4))
      have L4 := Lib.hid (Nat.lt_of_lt_of_le L3.out bl4.size)
      clear hb4 bl4
      go_wp2_with fail
      refine (bdWrite_any b b _ p w4 B4.out (by have := LEN.out; have := PSq.out; have := PBq.out; rw [List.length_append]; omega) (Nat.le_of_lt L4.out)).mono ?_; rintro x w5 ⟨⟨v5, rfl⟩, hb5, bl5⟩
      have B5 := Lib.hid hb5
      have U5 := Lib.hid (show Up w1 w5 from U4.out.below.trans (BE.out ▸ bl5))
      have L5 := Lib.hid (Nat.lt_of_lt_of_le L4.out bl5.size)
      clear hb5 bl5; go_wp2
      go_roundw
      case rel => exact ⟨⟨k + 1, by omega, by go_num, by rw [JTq.out]; simpa [List.append_assoc] using B5.out⟩, U5.out, L5.out⟩
      case measure => simp [intOf]; omega
    · obtain rfl : k = Ps.length := by omega
      have i4 : ¬ (Ps.length : Int) < Ps.length := by omega
      have BX := Lib.hid (show Bdr b b (P0 ++ joinS Ps ns) wr by have h := BR.out; rwa [List.take_of_length_le (Nat.le_refl _)] at h)
      clear BR
      go_wp2_with fail
      refine (Tryd.Builder_String_any b b (P0 ++ joinS Ps ns) wr BX.out (Nat.le_of_lt LR.out)).mono ?_; rintro x w6 ⟨rfl, bl6⟩
      have U6 := Lib.hid (U1.out.trans (UR.out.below.trans (BE.out ▸ bl6) : Up w1 w6))
      clear bl6; go_wp2; go_ret
      exact ⟨rfl, U6.out⟩
end Go.Proofs.YtlkmhmiamdbhcaaDoor

namespace Go.Proofs.YtlkmhmiamdbhcaaDoor
set_option maxRecDepth 100000
open Go.ChangeShapes Go.WideShapes Go.ChangeAt Go.RowKit
/-- One listed variable's reading. -/
def VarIs (w : World) (n : String) (d : DataW Unit) : Prop :=
  ∃ g t cs fuel p, Tryd.prog.globalNamed n = some g ∧ (Tryd.prog.globals[g]?).map (·.type) = some t ∧ w.var? Tryd.prog n = some cs ∧ DataW.trod (fun _ => ()) Tryd.prog w 0 (fun _ => true) false fuel t cs.toList = some (d, p)
theorem laid_mem {w : World} : ∀ {l : List (String × DataW Unit)} {ps : List MemPlace}, DataW.LaidVars Tryd.prog w l ps → ∀ n d, (n, d) ∈ l → VarIs w n d
  | [], _, _, _, _, hm => by cases hm
  | (n', d') :: r, ps, h, n, d, hm => by
    obtain ⟨g, t, cs, fuel, p, q, h1, h2, h3, h4, h5, _⟩ := h
    rcases List.mem_cons.1 hm with e | e
    · cases e
      exact ⟨g, t, cs, fuel, p, h1, h2, h3, h4⟩
    · exact laid_mem h5 n d e
theorem gPowT : (Tryd.prog.globals[6]?).map (·.type) = some 132 := by kernel_rfl
theorem cellsPow : Tryd.prog.cellsOf 132 = 20 := by kernel_rfl
theorem cellsU64 : Tryd.prog.cellsOf 107 = 1 := by kernel_rfl
theorem powData : (Rows.laid_internal_strconv_uint64pow10 : DataW Unit) = Lib.tabData .u64 Lib.pow10Tab := by kernel_rfl
theorem pow_of {w : World} (h : VarIs w "internal/strconv.uint64pow10" Rows.laid_internal_strconv_uint64pow10) : Lib.TabIs Tryd.prog w "internal/strconv.uint64pow10" .u64 Lib.pow10Tab := by
  obtain ⟨g, t, cs, fuel, p, h1, h2, h3, h4⟩ := h; obtain rfl := Option.some.inj (gPow.symm.trans h1); obtain rfl := Option.some.inj (gPowT.symm.trans h2); rw [powData] at h4; unfold Lib.TabIs; rw [h3, ← Lib.cells_of_tab Tryd.underlying132 Tryd.underlying107 cellsU64 cellsPow h4]
theorem gFmt : Tryd.prog.globalNamed "loop.example/turnback/impl.lineFormats" = some 0 := by kernel_rfl
theorem gFmtT : (Tryd.prog.globals[0]?).map (·.type) = some 54 := by kernel_rfl
theorem cellsLf : Tryd.prog.cellsOf 53 = 2 := by kernel_rfl
theorem cellsLfs : Tryd.prog.cellsOf 54 = 24 := by kernel_rfl
theorem fmt_elem {H : Type} {enc : TypeId × Value → H} {w : World} {base : Nat} {sp : Nat → Bool} {held : Bool} {fuel : Nat} {c : List Value} {bs : List UInt8} {n : Int} {p : List MemPlace}
    (h : DataW.trod enc Tryd.prog w base sp held fuel 53 c = some (.agg [.lit (.string bs), .lit (.int .i64 n)], p)) : c = [.string ⟨bs.toArray⟩, .int .i64 n] := by
  obtain ⟨f0, f1, hu, ho0, ho1, ht0, ht1⟩ := (⟨_, _, Tryd.underlying53, rfl, rfl, rfl, rfl⟩ : ∃ f0 f1 : Field, Tryd.prog.underlying 53 = some (.struct #[f0, f1]) ∧ f0.offset = 0 ∧ f1.offset = 1 ∧ f0.type = 9 ∧ f1.type = 3); obtain ⟨xs, m, _, hx, hl, hxl, hf⟩ := DataW.trod_struct hu h; rw [cellsLf] at hl
  match c, hl with
  | [c0, c1], _ =>
    match xs, hxl with
    | [y0, y1], _ =>
      have g0 := hf 0 f0 rfl
      have g1 := hf 1 f1 rfl
      rw [ho0, ht0, show Tryd.prog.cellsOf 9 = 1 by kernel_rfl] at g0; rw [ho1, ht1, show Tryd.prog.cellsOf 3 = 1 by kernel_rfl] at g1
      have g0 : DataW.trod enc Tryd.prog w base sp held m 9 [c0] = some y0 := g0
      have g1 : DataW.trod enc Tryd.prog w base sp held m 3 [c1] = some y1 := g1
      obtain ⟨s, e0, ey0, _⟩ := DataW.trod_string Tryd.underlying9 g0; obtain ⟨z, e1, ey1, _⟩ := DataW.trod_int Tryd.underlying3 g1; simp only [Prod.mk.injEq, DataW.agg.injEq, List.map_cons, List.map_nil, List.cons.injEq, and_true] at hx; obtain ⟨⟨d0, d1⟩, _⟩ := hx; subst ey0 ey1
      injection d0 with d0
      injection d0 with d0
      injection d1 with d1
      injection d1 with _ d1
      subst d1; subst d0; simp only [List.cons.injEq, and_true] at e0 e1; rw [e0, e1]
/-- The formats as data. -/
def fmtData : List (List UInt8 × Int) := [(([] : List UInt8), (0 : Int)), (([100, 111, 32, 35] : List UInt8), (999 : Int)), (([104, 101, 97, 114, 32, 35] : List UInt8), (999 : Int)), (([98, 101, 103, 105, 110] : List UInt8), (0 : Int)), (([118, 105, 115, 105, 116] : List UInt8), (0 : Int)), (([102, 114, 101, 101, 32, 35] : List UInt8), (999 : Int)), (([97, 116, 32, 35, 32, 116, 111, 32, 35, 32, 102, 114, 111, 109, 32, 35, 32, 107, 105, 110, 100, 32, 35, 32, 100, 97, 116, 97, 32, 35, 32, 116, 104, 101, 110, 32, 35] : List UInt8), (0 : Int)), (([98, 111, 117, 110, 100, 32, 35, 32, 111, 110, 32, 105, 116, 115, 32, 119, 97, 121, 32, 35] : List UInt8), (0 : Int)), (([104, 111, 115, 116, 32, 35, 32, 100, 111, 110, 101, 32, 35, 32, 119, 97, 105, 116, 115, 32, 35, 32, 99, 97, 108, 108, 101, 100, 32, 111, 102, 102, 32, 35, 32, 107, 101, 112, 116, 32, 35] : List UInt8), (0 : Int)), (([108, 105, 110, 101, 32, 35] : List UInt8), (0 : Int)), (([109, 111, 100, 101, 108] : List UInt8), (0 : Int)), (([108, 111, 110, 103] : List UInt8), (0 : Int))]
theorem fmtLaid : (Rows.laid_loop_example_turnback_impl_lineFormats : DataW Unit) = .agg (fmtData.map fun x => .agg [.lit (.string x.1), .lit (.int .i64 x.2)]) := by kernel_rfl
theorem fmt_at (j : Nat) (hj : j < 24) : fmtCells[j]? = [Value.string ⟨(fmtData.getD (j / 2) default).1.toArray⟩, Value.int .i64 (fmtData.getD (j / 2) default).2][j % 2]? := by
  have h : j = 0 ∨ j = 1 ∨ j = 2 ∨ j = 3 ∨ j = 4 ∨ j = 5 ∨ j = 6 ∨ j = 7 ∨ j = 8 ∨ j = 9 ∨ j = 10 ∨ j = 11 ∨ j = 12 ∨ j = 13 ∨ j = 14 ∨ j = 15 ∨ j = 16 ∨ j = 17 ∨ j = 18 ∨ j = 19 ∨ j = 20 ∨ j = 21 ∨ j = 22 ∨ j = 23 := by omega
  rcases h with rfl | rfl | rfl | rfl | rfl | rfl | rfl | rfl | rfl | rfl | rfl | rfl | rfl | rfl | rfl | rfl | rfl | rfl | rfl | rfl | rfl | rfl | rfl | rfl <;> rfl
theorem fmts_of {w : World} (h : VarIs w "loop.example/turnback/impl.lineFormats" Rows.laid_loop_example_turnback_impl_lineFormats) : ∀ (j : Nat) (u : Value), fmtCells[j]? = some u → w.cell? ⟨0, j, none⟩ = some u := by
  obtain ⟨g, t, cs, fuel, p, h1, h2, h3, h4⟩ := h; obtain rfl := Option.some.inj (gFmt.symm.trans h1); obtain rfl := Option.some.inj (gFmtT.symm.trans h2); obtain ⟨xs, m, _, hx, hl, hxl, hf⟩ := DataW.trod_array Tryd.underlying54 h4; rw [cellsLfs] at hl
  have hd : xs.map (·.1) = fmtData.map fun x => (.agg [.lit (.string x.1), .lit (.int .i64 x.2)] : DataW Unit) := by
    have := congrArg Prod.fst hx
    rw [fmtLaid] at this
    simpa using this.symm
  have hp : ∀ i, i < 12 → (cs.toList.drop (i * 2)).take 2 = [Value.string ⟨(fmtData.getD i default).1.toArray⟩, Value.int .i64 (fmtData.getD i default).2] := fun i hi => by
    have h0 := hf i hi
    rw [cellsLf, List.getElem?_eq_getElem (by omega)] at h0
    have e1 : (xs[i]'(by omega)).1 = .agg [.lit (.string (fmtData.getD i default).1), .lit (.int .i64 (fmtData.getD i default).2)] := by
      have hk : i < fmtData.length := by simpa [fmtData] using hi
      have := congrArg (fun l => l[i]?) hd
      simp only [List.getElem?_map, List.getElem?_eq_getElem (show i < xs.length by omega), List.getElem?_eq_getElem hk, Option.map_some, Option.some.injEq] at this; rw [this]; simp [List.getD, hk]
    have e2 : xs[i]'(by omega) = ((xs[i]'(by omega)).1, (xs[i]'(by omega)).2) := rfl
    rw [e2, e1] at h0
    exact fmt_elem h0
  intro j u hj
  have hj24 : j < 24 := (List.getElem?_eq_some_iff.1 hj).1
  rw [fmt_at j hj24, ← hp (j / 2) (by omega)] at hj
  have hv := World.var?_cell gFmt h3 j
  rw [hv, ← hj]; rw [List.getElem?_take_of_lt (by omega), List.getElem?_drop, show j / 2 * 2 + j % 2 = j by omega]; simp
end Go.Proofs.YtlkmhmiamdbhcaaDoor

namespace Go.Proofs.YtlkmhmiamdbhcaaDoor
set_option maxRecDepth 100000
open Go.RowKit
/-- The numeral of a number of at most three digits. -/
def dig3 (n : Nat) : List UInt8 :=
  if n < 10 then [UInt8.ofNat (48 + n)] else if n < 100 then [UInt8.ofNat (48 + n / 10), UInt8.ofNat (48 + n % 10)] else [UInt8.ofNat (48 + n / 10 / 10), UInt8.ofNat (48 + n / 10 % 10), UInt8.ofNat (48 + n % 10)]
theorem dec3 (n : Nat) (h : n < 1000) : Lib.decDigits n = dig3 n := by
  unfold dig3
  by_cases h1 : n < 10
  · rw [if_pos h1, Lib.decDigits_one h1]
  · rw [if_neg h1]
    by_cases h2 : n < 100
    · rw [if_pos h2, Lib.decDigits_two h1 h2]
    · rw [if_neg h2, Lib.decDigits, dif_neg h1, Lib.decDigits_two (by omega) (by omega)]
      rfl
theorem plain3 (n : Nat) (h : n < 1000) : plainS n = dig3 n := by
  unfold plainS; rw [if_neg (by omega), ← dec3 n h]
  rfl
/-- The number beside strconv.Atoi's error, or its own. -/
def atV (l : List UInt8) : Int := match Lib.atoiAll l with
  | .ok v => v
  | .range => Lib.atoiSat l
  | _ => 0
/-- What stands behind the last space. -/
def lastF (s : List UInt8) : List UInt8 := s.drop (Lib.lastIndex s [32] + 1).toNat
def valN (l : List UInt8) : Int := l.foldl (fun a c => a * 10 + ((c.toNat : Int) - 48)) 0
theorem all1 : ((List.range 1000).all fun n => ([[100, 111], [104, 101, 97, 114], [102, 114, 101, 101]] : List (List UInt8)).all fun wd => decide (atV (lastF (wd ++ [32] ++ dig3 n)) = (n : Int))) = true := by kernel_rfl
theorem all2 : ((List.range 1000).all fun n => decide (valN (dig3 n) = (n : Int)) && (dig3 n).all (fun c => decide (48 ≤ c.toNat) && decide (c.toNat ≤ 57)) && decide ((dig3 n).length ≤ 3) && decide (dig3 n ≠ [])) = true := by kernel_rfl
theorem dsk_form {k n : Int} {s : List UInt8} (h : dskS k n = s) (hs : s ≠ []) :
    (k = 3 ∧ n = 0 ∧ s = [98, 101, 103, 105, 110]) ∨ (k = 4 ∧ n = 0 ∧ s = [118, 105, 115, 105, 116]) ∨
    ∃ u : Nat, u < 1000 ∧ n = u ∧ ((k = 1 ∧ s = [100, 111] ++ [32] ++ dig3 u) ∨ (k = 2 ∧ s = [104, 101, 97, 114] ++ [32] ++ dig3 u) ∨ (k = 5 ∧ s = [102, 114, 101, 101] ++ [32] ++ dig3 u)) := by
  unfold dskS at h
  by_cases h1 : inB k 1 5 = true
  · rw [if_pos h1] at h
    rw [inB_iff] at h1
    by_cases h2 : k = 3 ∨ k = 4
    · rw [if_pos h2] at h
      by_cases h3 : n = 0
      · rw [if_pos h3] at h
        rcases h2 with rfl | rfl
        · exact .inl ⟨rfl, h3, h.symm⟩
        · exact .inr (.inl ⟨rfl, h3, h.symm⟩)
      · rw [if_neg h3] at h
        exact absurd h.symm hs
    · rw [if_neg h2] at h
      by_cases h3 : inB n 0 999 = true
      · rw [if_pos h3] at h
        rw [inB_iff] at h3; obtain ⟨u, rfl⟩ : ∃ u : Nat, n = u := ⟨n.toNat, by omega⟩; rw [plain3 u (by omega)] at h; refine .inr (.inr ⟨u, by omega, rfl, ?_⟩)
        have hk : k = 1 ∨ k = 2 ∨ k = 5 := by omega
        rcases hk with rfl | rfl | rfl
        · exact .inl ⟨rfl, h.symm⟩
        · exact .inr (.inl ⟨rfl, h.symm⟩)
        · exact .inr (.inr ⟨rfl, h.symm⟩)
      · rw [if_neg h3] at h
        exact absurd h.symm hs
  · rw [if_neg h1] at h
    exact absurd h.symm hs
theorem last_of {k n : Int} {s : List UInt8} (h : dskS k n = s) (hs : s ≠ []) : atV (lastF s) = n := by
  rcases dsk_form h hs with ⟨_, rfl, rfl⟩ | ⟨_, rfl, rfl⟩ | ⟨u, hu, rfl, hw⟩
  · kernel_rfl
  · kernel_rfl
  · have a := List.all_eq_true.1 all1 u (List.mem_range.2 hu)
    rw [List.all_eq_true] at a
    rcases hw with ⟨_, rfl⟩ | ⟨_, rfl⟩ | ⟨_, rfl⟩
    · exact of_decide_eq_true (a _ (by simp))
    · exact of_decide_eq_true (a _ (by simp))
    · exact of_decide_eq_true (a _ (by simp))
theorem kind_of {k n : Int} {s : List UInt8} (h : dskS k n = s) (hs : s ≠ []) : k = match s.head? with
    | some c => if c.toNat = 100 then 1 else if c.toNat = 104 then 2 else if c.toNat = 98 then 3 else if c.toNat = 118 then 4 else 5
    | none => 0 := by
  rcases dsk_form h hs with ⟨rfl, rfl, rfl⟩ | ⟨rfl, rfl, rfl⟩ | ⟨u, hu, rfl, hw⟩
  · rfl
  · rfl
  · rcases hw with ⟨rfl, rfl⟩ | ⟨rfl, rfl⟩ | ⟨rfl, rfl⟩ <;> rfl
theorem kind_in {k n : Int} {s : List UInt8} (h : dskS k n = s) (hs : s ≠ []) : 1 ≤ k ∧ k ≤ 5 := by
  rcases dsk_form h hs with ⟨rfl, rfl, rfl⟩ | ⟨rfl, rfl, rfl⟩ | ⟨u, hu, rfl, hw⟩
  · omega
  · omega
  · rcases hw with ⟨rfl, rfl⟩ | ⟨rfl, rfl⟩ | ⟨rfl, rfl⟩ <;> omega
/-- What reading gives. -/
def ResA (s : List UInt8) (k n : Int) (ok : Bool) : Prop := (ok = true ∧ dskS k n = s ∧ s ≠ []) ∨ (ok = false ∧ k = 0 ∧ n = 0 ∧ ∀ k n, dskS k n = s → s = [])
theorem ResA.one {s : List UInt8} {k n k' n' : Int} {b b' : Bool} (h : ResA s k n b) (h' : ResA s k' n' b') : k = k' ∧ n = n' ∧ b = b' := by
  rcases h with ⟨rfl, h1, h2⟩ | ⟨rfl, h1, h2, h3⟩
  · rcases h' with ⟨rfl, g1, g2⟩ | ⟨rfl, g1, g2, g3⟩
    · exact ⟨(kind_of h1 h2).trans (kind_of g1 g2).symm, (last_of h1 h2).symm.trans (last_of g1 g2), rfl⟩
    · exact absurd (g3 _ _ h1) h2
  · rcases h' with ⟨rfl, g1, g2⟩ | ⟨rfl, g1, g2, g3⟩
    · exact absurd (h3 _ _ g1) g2
    · exact ⟨h1.trans g1.symm, h2.trans g2.symm, rfl⟩
/-- The first word and what is behind it. -/
def SpW (s word rest : List UInt8) : Prop :=
  (∃ i : Nat, i < 9 ∧ word.length = i ∧ s = word ++ 32 :: rest ∧ ∀ c ∈ word, c.toNat ≠ 32) ∨ ((∀ (j : Nat) c, j < 9 → s[j]? = some c → c.toNat ≠ 32) ∧ word = s ∧ rest = [])
/-- What the number's reading gives. -/
def NumR (t : List UInt8) (z : Int) : Prop :=
  (z = -1 ∧ (t = [] ∨ 3 < t.length ∨ (∃ c ∈ t, c.toNat < 48 ∨ 57 < c.toNat) ∨ plainS (valN t) ≠ t)) ∨ (z = valN t ∧ 0 ≤ z ∧ z ≤ 999)
theorem num_of {u : Nat} {z : Int} (hu : u < 1000) (h : NumR (dig3 u) z) : z = u := by
  have a := List.all_eq_true.1 all2 u (List.mem_range.2 hu)
  simp only [Bool.and_eq_true, decide_eq_true_eq, List.all_eq_true] at a; obtain ⟨⟨⟨a1, a2⟩, a3⟩, a4⟩ := a
  rcases h with ⟨_, h | h | ⟨c, hc, h⟩ | h⟩ | ⟨h, _, _⟩
  · exact absurd h a4
  · omega
  · have := a2 c hc
    omega
  · rw [a1, plain3 u hu] at h
    exact absurd rfl h
  · rw [h, a1]
theorem word_of {k n : Int} {s word rest : List UInt8} (h : dskS k n = s) (hs : s ≠ []) (hw : SpW s word rest) : word = wordS k ∧ ((rest = [] ∧ n = 0) ∨ ∃ u : Nat, u < 1000 ∧ n = u ∧ rest = dig3 u) := by
  have one : ∀ (wd t : List UInt8), (∀ c ∈ wd, c.toNat ≠ 32) → wd.length < 9 → s = wd ++ [32] ++ t → word = wd ∧ rest = t := fun wd t h1 h2 h3 => by
    have h4 : s = wd ++ 32 :: t := by rw [h3]; simp
    rcases hw with ⟨i, _, _, e, hn⟩ | ⟨hn, _, _⟩
    · exact cut_eq hn h1 (e.symm.trans h4)
    · exact absurd rfl (hn wd.length 32 h2 (by rw [h4]; simp))
  have whole : (∀ c ∈ s, c.toNat ≠ 32) → word = s ∧ rest = [] := fun h1 => by
    rcases hw with ⟨i, _, _, e, hn⟩ | ⟨_, a, b⟩
    · exact absurd rfl (h1 32 (by rw [e]; simp))
    · exact ⟨a, b⟩
  rcases dsk_form h hs with ⟨rfl, rfl, e⟩ | ⟨rfl, rfl, e⟩ | ⟨u, hu, rfl, hw2⟩
  · obtain ⟨a, b⟩ := whole (by rw [e]; decide)
    exact ⟨a.trans e, .inl ⟨b, rfl⟩⟩
  · obtain ⟨a, b⟩ := whole (by rw [e]; decide)
    exact ⟨a.trans e, .inl ⟨b, rfl⟩⟩
  · rcases hw2 with ⟨rfl, e⟩ | ⟨rfl, e⟩ | ⟨rfl, e⟩
    · obtain ⟨a, b⟩ := one _ _ (by decide) (by decide) e
      exact ⟨a, .inr ⟨u, hu, rfl, b⟩⟩
    · obtain ⟨a, b⟩ := one _ _ (by decide) (by decide) e
      exact ⟨a, .inr ⟨u, hu, rfl, b⟩⟩
    · obtain ⟨a, b⟩ := one _ _ (by decide) (by decide) e
      exact ⟨a, .inr ⟨u, hu, rfl, b⟩⟩
end Go.Proofs.YtlkmhmiamdbhcaaDoor

namespace Go.Proofs.YtlkmhmiamdbhcaaDoor
set_option maxRecDepth 100000
open Go.RowKit
/-- The two errors' variables hold errors. -/
structure Sent (w : World) : Prop where
  sy : ∃ a b, w.cell? ⟨2, 0, none⟩ = some (.iface a b)
  rg : ∃ a b, w.cell? ⟨3, 0, none⟩ = some (.iface a b)
theorem Sent.up {w w' : World} (h : Sent w) (u : Up w w') : Sent w' := by
  obtain ⟨⟨a, b, h1⟩, ⟨c, d, h2⟩⟩ := h
  exact ⟨⟨a, b, (u.cells _ _ (World.block_lt_of_cell? _ _ h1)).trans h1⟩, ⟨c, d, (u.cells _ _ (World.block_lt_of_cell? _ _ h2)).trans h2⟩⟩
theorem atoi_any (l : List UInt8) (hl : l.length ≤ 2000000) (w : World) (hs : Sent w) : Calls Tryd.prog 27 #[.string ⟨l.toArray⟩] w fun x w' => (∃ e, x = .returned (.tuple #[.int .i64 (atV l), e])) ∧ Up w w' := by
  have sz : (⟨l.toArray⟩ : ByteArray).size = l.length := by simp [ByteArray.size]
  have tl : (⟨l.toArray⟩ : ByteArray).data.toList = l := rfl
  cases h : Lib.atoiAll l with
  | ok v =>
    have e : atV l = v := by unfold atV; rw [h]
    rw [e]; refine (Tryd.strconv_Atoi_ok ⟨l.toArray⟩ (by omega) v h w).mono ?_; rintro x w' ⟨rfl, hw⟩; refine ⟨⟨_, rfl⟩, ?_⟩
    rcases hw with rfl | ⟨t, rfl⟩
    · exact Up.refl _
    · exact Lib.bytesWorld_below w _ t
  | range =>
    have e : atV l = Lib.atoiSat l := by unfold atV; rw [h]
    rw [e]; obtain ⟨a, b, hv⟩ := hs.rg; refine (Tryd.strconv_Atoi_range ⟨l.toArray⟩ (by omega) h _ w hv (.inr ⟨a, b, rfl⟩)).mono ?_; rintro x w' ⟨N, rfl, _, _, hw⟩
    exact ⟨⟨_, rfl⟩, hw⟩
  | _ =>
    have e : atV l = 0 := by unfold atV; rw [h]
    rw [e]; obtain ⟨a, b, hv⟩ := hs.sy; refine (Tryd.strconv_Atoi_syntax ⟨l.toArray⟩ (by omega) h _ w hv (.inr ⟨a, b, rfl⟩)).mono ?_; rintro x w' ⟨N, rfl, _, _, hw⟩
    exact ⟨⟨_, rfl⟩, hw⟩
theorem last_bounds (s : List UInt8) : -1 ≤ Lib.lastIndex s [32] ∧ Lib.lastIndex s [32] < s.length := by
  unfold Lib.lastIndex
  split
  · rename_i h
    rcases Lib.lastOcc_spec s [32] (s.length - [(32 : UInt8)].length + 1) with ⟨e, _⟩ | ⟨i, hi, e, _⟩
    · rw [e]; omega
    · rw [e]
      simp only [List.length_cons, List.length_nil] at h hi
      omega
  · omega
theorem lastIx_any (s : List UInt8) (hl : s.length ≤ 2000000) (w : World) : Calls Tryd.prog 28 #[.string ⟨s.toArray⟩, .string ⟨#[32]⟩] w fun x w' => x = .returned (.int .i64 (Lib.lastIndex s [32])) ∧ w' = w :=
  Tryd.strings_LastIndex ⟨s.toArray⟩ ⟨#[32]⟩ (by rw [show (⟨s.toArray⟩ : ByteArray).size = s.length by simp [ByteArray.size]]; omega) w
end Go.Proofs.YtlkmhmiamdbhcaaDoor

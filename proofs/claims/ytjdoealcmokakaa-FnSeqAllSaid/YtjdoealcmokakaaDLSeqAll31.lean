/-
  The sequential simulator between two operations, in one sentence: its six cells, its three lists in rows of the call's own that lie apart, the pending events among them a heap; what Pop, Push and growth keep of it; no condition is made.
  What swapRange and rotate do with a row, in one sentence: two stretches change places; for all that lie in it.
  What rotate does with a row, in one sentence: two neighbouring stretches change places; for all that lie in it.
  Why merging by halves sorts, in one sentence: behind the rotation each half is two rising stretches, and none of the left half is greater than one of the right; no condition is made.
-/
import Derived.RegionTactic
import Derived.Test.YtjdoealcmokakaaDLSeqAll02
import Derived.Test.YtjdoealcmokakaaDLSeqAll18
import Derived.Test.YtjdoealcmokakaaDLSeqAll30
namespace Go.Proofs.Ytjdoealcmokakaa
set_option maxRecDepth 100000
open Go.RowKit
theorem own_keep {w w' : World} {b e size n : Nat} {v : Value} {xs : List Value} (h : w.ownsRow b e size v n xs) (k : ∀ g, v.ownBlock = some g → g < w.heap.size → w'.heap[g]? = w.heap[g]?) : w'.ownsRow b e size v n xs := by
  refine ⟨h.1, ?_⟩
  rcases h.2 with h0 | ⟨g, cap, cur, rfl, hg, hb, hr⟩
  · exact .inl h0
  · exact .inr ⟨g, cap, cur, rfl, hg, (k g rfl (Array.getElem?_eq_some_iff.1 hb).1).trans hb, hr⟩
/-- Rows of other elements lie apart. -/
theorem own_apart {w : World} {b b' e e' size size' n n' : Nat} {v v' : Value} {xs xs' : List Value} (h : w.ownsRow b e size v n xs) (h' : w.ownsRow b' e' size' v' n' xs') (he : e ≠ e') : ∀ g, v.ownBlock = some g → v'.ownBlock = some g → False := fun g h1 h2 => by
  rcases h.2 with ⟨rfl, _⟩ | ⟨g1, cap, cur, rfl, _, hb, _⟩
  · cases h1
  rcases h'.2 with ⟨rfl, _⟩ | ⟨g2, cap', cur', rfl, _, hb', _⟩
  · cases h2
  injection h1 with h1
  injection h2 with h2
  have h1 : g1 = g := h1
  have h2 : g2 = g := h2
  subst h1; subst h2; rw [hb] at hb'
  injection hb' with hb'
  injection hb' with _ hb' _
  exact he hb'
/-- A row and a block of another kind lie apart. -/
theorem own_off {w : World} {b e size n p : Nat} {v : Value} {xs : List Value} {cur : Array Value} {e' : Nat} {fz : Nat × Nat} (h : w.ownsRow b e size v n xs) (hp : w.heap[p]? = some (.cells cur e' fz)) (he : e ≠ e') : ∀ g, v.ownBlock = some g → g ≠ p := fun g h1 h2 => by
  subst h2
  rcases h.2 with ⟨rfl, _⟩ | ⟨g1, cap, cur', rfl, _, hb, _⟩
  · cases h1
  injection h1 with h1
  have h1 : g1 = g := h1
  subst h1; rw [hb] at hp
  injection hp with hp
  injection hp with _ hp _
  exact he hp
structure Sim (lo mb : Nat) (many til : Int) (nc nl : Nat) (cs : List Cst) (ls : List Rec) (p : Nat) (vc vl : Value) (g n c : Nat) (f : Nat → Evt) (w : World) : Prop where
  pl : p < w.heap.size
  pge : lo ≤ p
  c0 : w.cell? ⟨p, 0, none⟩ = some (.map (some mb))
  c1 : w.cell? ⟨p, 1, none⟩ = some (.int .i64 many)
  c2 : w.cell? ⟨p, 2, none⟩ = some (.int .i64 til)
  c3 : w.cell? ⟨p, 3, none⟩ = some vc
  c4 : w.cell? ⟨p, 4, none⟩ = some (.slice (some ⟨g, 0, none⟩) n c)
  c5 : w.cell? ⟨p, 5, none⟩ = some vl
  fz : ∀ j, w.frozen? ⟨p, j, none⟩ = false
  rc : w.ownsRow lo 46 3 vc nc (flat3 cs)
  rl : w.ownsRow lo 41 7 vl nl (flat7 ls)
  hp : Hp w lo g n c f
  hf : HeapF f n
  apc : ∀ x, vc.ownBlock = some x → x ≠ p
  apl : ∀ x, vl.ownBlock = some x → x ≠ p
  apq : p ≠ g
theorem Sim.agc {lo mb : Nat} {many til : Int} {nc nl : Nat} {cs : List Cst} {ls : List Rec} {p : Nat} {vc vl : Value} {g n c : Nat} {f : Nat → Evt} {w : World} (h : Sim lo mb many til nc nl cs ls p vc vl g n c f w) : ∀ x, vc.ownBlock = some x → x ≠ g := by
  obtain ⟨cur, hb, _⟩ := h.hp.blk
  exact own_off h.rc hb (by decide)
theorem Sim.agl {lo mb : Nat} {many til : Int} {nc nl : Nat} {cs : List Cst} {ls : List Rec} {p : Nat} {vc vl : Value} {g n c : Nat} {f : Nat → Evt} {w : World} (h : Sim lo mb many til nc nl cs ls p vc vl g n c f w) : ∀ x, vl.ownBlock = some x → x ≠ g := by
  obtain ⟨cur, hb, _⟩ := h.hp.blk
  exact own_off h.rl hb (by decide)
theorem Sim.acl {lo mb : Nat} {many til : Int} {nc nl : Nat} {cs : List Cst} {ls : List Rec} {p : Nat} {vc vl : Value} {g n c : Nat} {f : Nat → Evt} {w : World} (h : Sim lo mb many til nc nl cs ls p vc vl g n c f w) : ∀ x, vc.ownBlock = some x → vl.ownBlock = some x → False :=
  own_apart h.rc h.rl (by decide)
theorem Sim.up {lo mb : Nat} {many til : Int} {nc nl : Nat} {cs : List Cst} {ls : List Rec} {p : Nat} {vc vl : Value} {g n c : Nat} {f : Nat → Evt} {w w' : World} (h : Sim lo mb many til nc nl cs ls p vc vl g n c f w) (u : Up w w') : Sim lo mb many til nc nl cs ls p vc vl g n c f w' :=
  ⟨Nat.lt_of_lt_of_le h.pl u.size, h.pge, (u.cells _ _ h.pl).trans h.c0, (u.cells _ _ h.pl).trans h.c1, (u.cells _ _ h.pl).trans h.c2, (u.cells _ _ h.pl).trans h.c3, (u.cells _ _ h.pl).trans h.c4, (u.cells _ _ h.pl).trans h.c5, fun j => (u.frozens _ _ h.pl).trans (h.fz j),
    own_up h.rc u, own_up h.rl u, h.hp.up u, h.hf, h.apc, h.apl, h.apq⟩
/-- After Pop. -/
theorem Sim.pop {lo mb : Nat} {many til : Int} {nc nl : Nat} {cs : List Cst} {ls : List Rec} {p : Nat} {vc vl : Value} {g n n' c : Nat} {f F : Nat → Evt} {w w' : World} (h : Sim lo mb many til nc nl cs ls p vc vl g n c f w)
    (hq : Hp w' lo g n' c F) (hf : HeapF F n') (h4 : w'.cell? ⟨p, 4, none⟩ = some (.slice (some ⟨g, 0, none⟩) n' c)) (s : HS p 4 g w w') : Sim lo mb many til nc nl cs ls p vc vl g n' c F w' :=
  ⟨Nat.lt_of_lt_of_le h.pl s.size, h.pge, (s.pcell 0 (by omega)).trans h.c0, (s.pcell 1 (by omega)).trans h.c1, (s.pcell 2 (by omega)).trans h.c2, (s.pcell 3 (by omega)).trans h.c3, h4, (s.pcell 5 (by omega)).trans h.c5, fun j => (s.pfz j).trans (h.fz j),
    own_keep h.rc (fun x hx hl => s.block x hl (h.apc x hx) (h.agc x hx)), own_keep h.rl (fun x hx hl => s.block x hl (h.apl x hx) (h.agl x hx)), hq, hf, h.apc, h.apl, h.apq⟩
/-- After Push. -/
theorem Sim.push {lo mb : Nat} {many til : Int} {nc nl : Nat} {cs : List Cst} {ls : List Rec} {p : Nat} {vc vl : Value} {g n c g' n' c' : Nat} {f F : Nat → Evt} {w w' : World} (h : Sim lo mb many til nc nl cs ls p vc vl g n c f w)
    (hq : Hp w' lo g' n' c' F) (hf : HeapF F n') (h4 : w'.cell? ⟨p, 4, none⟩ = some (.slice (some ⟨g', 0, none⟩) n' c')) (hg : g' = g ∨ w.heap.size ≤ g') (s : HS2 p 4 g w w') : Sim lo mb many til nc nl cs ls p vc vl g' n' c' F w' :=
  ⟨Nat.lt_of_lt_of_le h.pl s.size, h.pge, (s.pcell 0 (by omega)).trans h.c0, (s.pcell 1 (by omega)).trans h.c1, (s.pcell 2 (by omega)).trans h.c2, (s.pcell 3 (by omega)).trans h.c3, h4, (s.pcell 5 (by omega)).trans h.c5, fun j => (s.pfz j).trans (h.fz j),
    own_keep h.rc (fun x hx hl => s.block x hl (h.apc x hx) (h.agc x hx)), own_keep h.rl (fun x hx hl => s.block x hl (h.apl x hx) (h.agl x hx)), hq, hf, h.apc, h.apl, by have := h.pl; have := h.apq; omega⟩
/-- What lay there before the simulator stays, through Pop and Push. -/
theorem HS.up0 {p o g : Nat} {w0 w w' : World} (s : HS p o g w w') (u : Up w0 w) (hp : w0.heap.size ≤ p) (hg : w0.heap.size ≤ g) : Up w0 w' :=
  ⟨s.os.trans u.below.os, s.tape.trans u.below.tape, s.output.trans u.below.output, Nat.le_trans u.size s.size, fun k hk => (s.block k (Nat.lt_of_lt_of_le hk u.size) (by omega) (by omega)).trans (u.below.block k hk)⟩
theorem HS2.up0 {p o g : Nat} {w0 w w' : World} (s : HS2 p o g w w') (u : Up w0 w) (hp : w0.heap.size ≤ p) (hg : w0.heap.size ≤ g) : Up w0 w' :=
  ⟨s.os.trans u.below.os, s.tape.trans u.below.tape, s.output.trans u.below.output, Nat.le_trans u.size s.size, fun k hk => (s.block k (Nat.lt_of_lt_of_le hk u.size) (by omega) (by omega)).trans (u.below.block k hk)⟩
/-- A simulator with pending events, as resume made it. -/
theorem Alone.sim {lo mb : Nat} {many til : Int} {nc nw nl : Nat} {s : Sq} {p : Nat} {w : World} (h : Alone lo mb many til nc nw nl s p w) (hn : 0 < nw) (hf : HeapF (fun i => s.wait.getD i default) nw) :
    ∃ vc vl g c, Sim lo mb many til nc nl s.comps s.log p vc vl g nw c (fun i => s.wait.getD i default) w := by
  obtain ⟨hlo, vc, vw, vl, hb, ⟨oc, ow, ol⟩⟩ := h; obtain ⟨g, c, rfl, hg, hgl⟩ := ow.form hn
  have hpl := (Array.getElem?_eq_some_iff.1 hb).1
  exact ⟨vc, vl, g, c, hpl, hlo, by rw [cell_of_row _ _ 0 _ _ _ hb]; rfl, by rw [cell_of_row _ _ 1 _ _ _ hb]; rfl, by rw [cell_of_row _ _ 2 _ _ _ hb]; rfl, by rw [cell_of_row _ _ 3 _ _ _ hb]; rfl, by rw [cell_of_row _ _ 4 _ _ _ hb]; rfl, by rw [cell_of_row _ _ 5 _ _ _ hb]; rfl,
    fun j => by unfold World.frozen?; rw [hb]; simp, oc, ol, Hp.of_own ow hn, hf, own_off oc hb (by decide), own_off ol hb (by decide), (own_off ow hb (by decide) g rfl).symm⟩
end Go.Proofs.Ytjdoealcmokakaa

namespace Go.Proofs.Ytjdoealcmokakaa
set_option maxRecDepth 100000
open Go.RowKit
/-- Two stretches of n, at a and at b, change places. -/
def swpR (f : Nat → Evt) (a b n : Nat) : Nat → Evt := fun k => if a ≤ k ∧ k < a + n then f (k - a + b) else if b ≤ k ∧ k < b + n then f (k - b + a) else f k
theorem swpR_zero (f : Nat → Evt) (a b k : Nat) : swpR f a b 0 k = f k := by
  unfold swpR; rw [if_neg (by omega), if_neg (by omega)]
theorem swpR_step (f : Nat → Evt) (a b n : Nat) (h : a + n + 1 ≤ b) (k : Nat) : swp (swpR f a b n) (a + n) (b + n) k = swpR f a b (n + 1) k := by
  unfold swp
  by_cases h1 : k = a + n
  · subst h1
    rw [if_pos rfl]; unfold swpR; rw [if_neg (by omega), if_neg (by omega), if_pos (by omega)]
    congr 1
    omega
  · rw [if_neg h1]
    by_cases h2 : k = b + n
    · subst h2
      rw [if_pos rfl]; unfold swpR; rw [if_neg (by omega), if_neg (by omega), if_neg (by omega), if_pos (by omega)]
      congr 1
      omega
    · rw [if_neg h2]
      unfold swpR
      by_cases h3 : a ≤ k ∧ k < a + n
      · rw [if_pos h3, if_pos (by omega)]
      · rw [if_neg h3]
        have h5 : ¬ (a ≤ k ∧ k < a + (n + 1)) := by omega
        by_cases h4 : b ≤ k ∧ k < b + n
        · rw [if_pos h4, if_neg h5, if_pos (by omega)]
        · rw [if_neg h4, if_neg h5, if_neg (by omega)]
theorem Arr.as_ {f f' f'' : Nat → Evt} {a b N : Nat} (h : Arr f f' a b N) (e : ∀ k, f' k = f'' k) : Arr f f'' a b N := by
  have : f' = f'' := funext e
  exact this ▸ h
theorem swpR_arr (f : Nat → Evt) {a b lo hi N : Nat} (hlo : lo ≤ a) (hN : hi ≤ N) : ∀ n, a + n ≤ b → b + n ≤ hi → Arr f (swpR f a b n) lo hi N
  | 0, _, _ => (Arr.refl f lo hi N).as_ fun k => (swpR_zero f a b k).symm
  | n + 1, h1, h2 => ((swpR_arr f hlo hN n (by omega) (by omega)).trans (swp_arr (swpR f a b n) (i := a + n) (j := b + n) (by omega) (by omega) (by omega) (by omega))).as_ (swpR_step f a b n (by omega))
set_option maxRecDepth 100000 in
set_option maxHeartbeats 4000000 in
theorem swapRange_any (g N c a b n : Nat) (f : Nat → Evt) (C : Value) (w : World) (hN : N ≤ 2000000) (hab : a + n ≤ b) (hb : b + n ≤ N) (hR : Row w g N f) :
    Calls Try.prog 102 #[.slice (some ⟨g, 0, none⟩) N c, .int .i64 (a : Int), .int .i64 (b : Int), .int .i64 (n : Int), C] w
      fun x w' => x = .returned (.tuple #[]) ∧ Row w' g N (swpR f a b n) ∧ Mv g w w' := by
  have HR := Lib.hid (hR.as_ fun i _ => (swpR_zero f a b i).symm)
  clear hR
  go_enter Try.func102, Try.ntmps102
  go_wp2
  go_loopw [10] (fun v wr => (∃ i : Nat, v = .int .i64 (i : Int) ∧ i ≤ n ∧ Row wr g N (swpR f a b i)) ∧ Mv g w wr) (fun v _ => n - (intOf v).toNat)
  case atStart => exact ⟨⟨0, by first | rfl | go_num, by omega, HR.out⟩, Mv.refl _ _⟩
  case round =>
    obtain ⟨⟨i, rfl, hi, hF⟩, mv⟩ := hrel
    have HW := Lib.hid hF
    have MV := Lib.hid mv
    have hg := hF.1
    clear hF mv HR
    by_cases hlt : i < n
    · have j1 : (i : Int) < (n : Int) := by omega
      have ST := Lib.hid (fun k => swpR_step f a b i (by omega) k)
      generalize swpR f a b i = F at HW ST
      obtain ⟨p, hp⟩ : ∃ p, p = a + i := ⟨_, rfl⟩; obtain ⟨q, hq⟩ : ∃ q, q = b + i := ⟨_, rfl⟩
      have HP := Lib.hid hp
      have HQ := Lib.hid hq
      have hpN : p < N := by omega
      have hqN : q < N := by omega
      have w1 : IntKind.i64.wrap ((a : Int) + (i : Int)) = (p : Int) := by rw [IntWalk.i64_in _ (by omega)]; omega
      have w2 : IntKind.i64.wrap ((b : Int) + (i : Int)) = (q : Int) := by rw [IntWalk.i64_in _ (by omega)]; omega
      have e1 := HW.out.2.1 p hpN
      have e0 := HW.out.2.1 q hqN
      generalize hx : F p = x at e1
      generalize hy : F q = y at e0
      have HX := Lib.hid hx
      have HY := Lib.hid hy
      have AA := Lib.hid ((HW.out.put (k := p) (e := y) hpN).put (k := q) (e := x) hqN)
      have hpq : p ≠ q := by omega
      clear hx hy hp hq; obtain ⟨xt, xto, xfr, xsq, xkd, xdt⟩ := x; obtain ⟨yt, yto, yfr, ysq, ykd, ydt⟩ := y; unfold EvAt at e1 e0; dsimp only at e1 e0; obtain ⟨p0, p1, p2, p3, p4, p5⟩ := e1; obtain ⟨q0, q1, q2, q3, q4, q5⟩ := e0
      have f0 := HW.out.2.2 (p * 6) (by omega)
      have f1 := HW.out.2.2 (p * 6 + 1) (by omega)
      have f2 := HW.out.2.2 (p * 6 + 2) (by omega)
      have f3 := HW.out.2.2 (p * 6 + 3) (by omega)
      have f4 := HW.out.2.2 (p * 6 + 4) (by omega)
      have f5 := HW.out.2.2 (p * 6 + 5) (by omega)
      have g0 := HW.out.2.2 (q * 6) (by omega)
      have g1 := HW.out.2.2 (q * 6 + 1) (by omega)
      have g2 := HW.out.2.2 (q * 6 + 2) (by omega)
      have g3 := HW.out.2.2 (q * 6 + 3) (by omega)
      have g4 := HW.out.2.2 (q * 6 + 4) (by omega)
      have g5 := HW.out.2.2 (q * 6 + 5) (by omega)
      have l3 : (p : Int) < N := by omega
      have l6 : (q : Int) < N := by omega
      go_wp2_with fail
      go_region
      have A2 := (AA.out.up (Up.refl _).drew)
      unfold putEv at A2
      have A3 := Lib.hid A2
      clear A2 AA p0 p1 p2 p3 p4 p5 q0 q1 q2 q3 q4 q5 f0 f1 f2 f3 f4 f5 g0 g1 g2 g3 g4 g5; go_wp2
      go_roundw
      case rel =>
        refine ⟨⟨i + 1, by first | rfl | go_num, by omega, A3.out.as_ ?_⟩, ?_⟩
        · intro m hm
          rw [← ST.out m, ← HP.out, ← HQ.out]; unfold swp; rw [HX.out, HY.out]
          by_cases h1 : m = p
          · rw [if_pos h1, if_neg (by omega), if_pos h1]
          · by_cases h2 : m = q
            · rw [if_pos h2, if_neg h1, if_pos h2]
            · rw [if_neg h2, if_neg h1, if_neg h1, if_neg h2]
        · exact ((((((((((((MV.out.setCell _).setCell _).setCell _).setCell _).setCell _).setCell _).setCell _).setCell _).setCell _).setCell _).setCell _).setCell _).drew
      case measure => (simp [intOf]; try omega)
    · obtain rfl : i = n := by omega
      have j1 : ¬ (i : Int) < (i : Int) := by omega
      go_wp2
      exact bodyPost_end (v := .tuple #[]) (results_none Try.results102 _ _ _) rfl ⟨rfl, HW.out, MV.out⟩
end Go.Proofs.Ytjdoealcmokakaa

namespace Go.Proofs.Ytjdoealcmokakaa
set_option maxRecDepth 100000
open Go.RowKit
/-- The stretches from a up to m and from m up to b change places. -/
def rotF (f : Nat → Evt) (a m b : Nat) : Nat → Evt := fun k => if a ≤ k ∧ k < a + (b - m) then f (k + (m - a)) else if a + (b - m) ≤ k ∧ k < b then f (k - (b - m)) else f k
theorem rot_end (f : Nat → Evt) (m i : Nat) (h : i ≤ m) (k : Nat) : swpR f (m - i) m i k = rotF f (m - i) m (m + i) k := by
  unfold rotF swpR
  (repeat' split) <;> first | (exfalso; omega) | (congr 1; omega) | rfl
theorem rot_more (f : Nat → Evt) (m i j : Nat) (h : i ≤ m) (hj : j < i) (k : Nat) : rotF (swpR f (m - i) m j) (m - (i - j)) m (m + j) k = rotF f (m - i) m (m + j) k := by
  unfold rotF swpR
  (repeat' split) <;> first | (exfalso; omega) | (congr 1; omega) | rfl
theorem rot_less (f : Nat → Evt) (m i j : Nat) (h : i ≤ m) (hj : i < j) (k : Nat) : rotF (swpR f (m - i) (m + j - i) i) (m - i) m (m + (j - i)) k = rotF f (m - i) m (m + j) k := by
  unfold rotF swpR
  (repeat' split) <;> first | (exfalso; omega) | (congr 1; omega) | rfl
/-- The loop's relation. -/
def RotR (f : Nat → Evt) (a m b g N : Nat) (u v : Value) (wr : World) : Prop :=
  ∃ (i j : Nat) (F : Nat → Evt), u = .int .i64 (i : Int) ∧ v = .int .i64 (j : Int) ∧ 1 ≤ i ∧ 1 ≤ j ∧ a + i ≤ m ∧ m + j ≤ b ∧ Row wr g N F ∧ Arr f F a b N ∧ ∀ k, rotF F (m - i) m (m + j) k = rotF f a m b k
set_option maxRecDepth 100000 in
set_option maxHeartbeats 4000000 in
theorem rotate_any (g N c a m b : Nat) (f : Nat → Evt) (C : Value) (w : World) (hN : N ≤ 2000000) (ham : a < m) (hmb : m < b) (hb : b ≤ N) (hR : Row w g N f) :
    Calls Try.prog 101 #[.slice (some ⟨g, 0, none⟩) N c, .int .i64 (a : Int), .int .i64 (m : Int), .int .i64 (b : Int), C] w
      fun x w' => x = .returned (.tuple #[]) ∧ (∃ F, Row w' g N F ∧ Arr f F a b N ∧ ∀ k, F k = rotF f a m b k) ∧ Mv g w w' := by
  have HR := Lib.hid hR
  have SW := Lib.hid (fun p q n F W h1 h2 h => swapRange_any g N c p q n F C W hN h1 h2 h)
  clear hR
  have w1 : IntKind.i64.wrap ((m : Int) - (a : Int)) = ((m - a : Nat) : Int) := by rw [IntWalk.i64_in _ (by omega)]; omega
  have w2 : IntKind.i64.wrap ((b : Int) - (m : Int)) = ((b - m : Nat) : Int) := by rw [IntWalk.i64_in _ (by omega)]; omega
  have H0 := Lib.hid (show RotR f a m b g N (.int .i64 ((m - a : Nat) : Int)) (.int .i64 ((b - m : Nat) : Int)) w from ⟨m - a, b - m, f, rfl, rfl, by omega, by omega, by omega, by omega, HR.out, Arr.refl _ _ _ _, fun k => by rw [show m - (m - a) = a by omega, show m + (b - m) = b by omega]⟩)
  generalize m - a = i0 at w1 H0
  generalize b - m = j0 at w2 H0
  clear HR
  go_enter Try.func101, Try.ntmps101
  go_wp2
  go_loopw [10, 11] (fun u v wr => RotR f a m b g N u v wr ∧ Mv g w wr) (fun u v _ => (intOf u).toNat + (intOf v).toNat)
  case atStart => exact ⟨H0.out, Mv.refl _ _⟩
  case round =>
    obtain ⟨⟨i, j, F, rfl, rfl, hi, hj, him, hjb, hF, hA, hK⟩, mv⟩ := hrel
    have HW := Lib.hid hF
    have HA := Lib.hid hA
    have HK := Lib.hid hK
    have MV := Lib.hid mv
    clear hF hA hK mv H0 w1 w2; obtain ⟨p, hp⟩ : ∃ p, p = m - i := ⟨_, rfl⟩
    have w3 : IntKind.i64.wrap ((m : Int) - (i : Int)) = (p : Int) := by rw [IntWalk.i64_in _ (by omega)]; omega
    have HP := Lib.hid hp
    by_cases hij : i = j
    · subst hij
      have SE := Lib.hid (SW.out p m i F wr (by omega) (by omega) HW.out)
      have AE := Lib.hid (HA.out.trans (swpR_arr F (a := p) (b := m) (lo := a) (hi := b) (N := N) (by omega) hb i (by omega) (by omega)))
      have KE := Lib.hid (fun k => show swpR F p m i k = rotF f a m b k by rw [hp, rot_end F m i (by omega) k, HK.out k])
      clear hp
      go_wp2_with fail
      refine SE.out.mono ?_; rintro x w4 ⟨rfl, hr, mv⟩
      have HR := Lib.hid hr
      have ME := Lib.hid (MV.out.trans mv)
      clear hr mv; go_wp2
      exact bodyPost_end (v := .tuple #[]) (results_none Try.results101 _ _ _) rfl ⟨rfl, ⟨_, HR.out, AE.out, KE.out⟩, ME.out⟩
    · have hij2 : ¬ (i : Int) = (j : Int) := by omega
      have hij3 : ((i : Int) != (j : Int)) = true := by simp; omega
      by_cases hgt : j < i
      · have j1 : (j : Int) < (i : Int) := by omega
        have SE := Lib.hid (SW.out p m j F wr (by omega) (by omega) HW.out)
        have AE := Lib.hid (HA.out.trans (swpR_arr F (a := p) (b := m) (lo := a) (hi := b) (N := N) (by omega) hb j (by omega) (by omega)))
        have KE := Lib.hid (fun k => show rotF (swpR F p m j) (m - (i - j)) m (m + j) k = rotF f a m b k by rw [hp, rot_more F m i j (by omega) hgt k, HK.out k])
        obtain ⟨d, hd⟩ : ∃ d, d = i - j := ⟨_, rfl⟩
        have w4 : IntKind.i64.wrap ((i : Int) - (j : Int)) = (d : Int) := by rw [IntWalk.i64_in _ (by omega)]; omega
        rw [← hd] at KE
        have HD := Lib.hid hd
        clear hp hd
        go_wp2_with fail
        refine SE.out.mono ?_; rintro x w5 ⟨rfl, hr, mv⟩
        have HR := Lib.hid hr
        have ME := Lib.hid (MV.out.trans mv)
        clear hr mv; go_wp2
        go_roundw
        case rel => exact ⟨⟨d, j, _, by first | rfl | go_num, by first | rfl | go_num, by have := HD.out; omega, by omega, by have := HD.out; omega, by omega, HR.out, AE.out, KE.out⟩, ME.out⟩
        case measure => (have := HD.out; simp [intOf]; omega)
      · have j1 : ¬ (j : Int) < (i : Int) := by omega
        obtain ⟨q, hq⟩ : ∃ q, q = m + j - i := ⟨_, rfl⟩
        have w5 : IntKind.i64.wrap ((m : Int) + (j : Int)) = ((m + j : Nat) : Int) := by rw [IntWalk.i64_in _ (by omega)]; omega
        have w6 : IntKind.i64.wrap (((m + j : Nat) : Int) - (i : Int)) = (q : Int) := by rw [IntWalk.i64_in _ (by omega)]; omega
        have SE := Lib.hid (SW.out p q i F wr (by omega) (by omega) HW.out)
        have AE := Lib.hid (HA.out.trans (swpR_arr F (a := p) (b := q) (lo := a) (hi := b) (N := N) (by omega) hb i (by omega) (by omega)))
        have KE := Lib.hid (fun k => show rotF (swpR F p q i) (m - i) m (m + (j - i)) k = rotF f a m b k by rw [hp, hq, rot_less F m i j (by omega) (by omega) k, HK.out k])
        obtain ⟨d, hd⟩ : ∃ d, d = j - i := ⟨_, rfl⟩
        have w4 : IntKind.i64.wrap ((j : Int) - (i : Int)) = (d : Int) := by rw [IntWalk.i64_in _ (by omega)]; omega
        rw [← hd] at KE
        have HD := Lib.hid hd
        generalize hmj : m + j = mj at w5 w6
        clear hp hd hq
        have HMJ := Lib.hid hmj
        clear hmj
        go_wp2_with fail
        refine SE.out.mono ?_; rintro x w7 ⟨rfl, hr, mv⟩
        have HR := Lib.hid hr
        have ME := Lib.hid (MV.out.trans mv)
        clear hr mv; go_wp2
        go_roundw
        case rel => exact ⟨⟨i, d, _, by first | rfl | go_num, by first | rfl | go_num, by omega, by have := HD.out; omega, by omega, by have := HD.out; omega, HR.out, AE.out, KE.out⟩, ME.out⟩
        case measure => (have := HD.out; simp [intOf]; omega)
end Go.Proofs.Ytjdoealcmokakaa

namespace Go.Proofs.Ytjdoealcmokakaa
set_option maxRecDepth 100000
open Go.RowKit
/-- What the search finds. -/
structure SymI (f : Nat → Evt) (a m b mid s e : Nat) : Prop where
  aS : a ≤ s
  sm : s ≤ m
  me : m ≤ e
  eb : e ≤ b
  sum : s + e = mid + m
  lo : s = a ∨ e = b ∨ leE (f (s - 1)) (f e)
  hi : s = m ∨ e = m ∨ ltE (f (e - 1)) (f s) = true
theorem SymI.mid {f : Nat → Evt} {a m b mid s e : Nat} (h : SymI f a m b mid s e) : s ≤ mid ∧ mid ≤ e ∧ mid = s + (e - m) := by
  have := h.sum; have := h.sm; have := h.me
  omega
theorem rot_pre (f : Nat → Evt) {s m e k : Nat} (h : k < s) : rotF f s m e k = f k := by
  unfold rotF; rw [if_neg (by omega), if_neg (by omega)]
theorem rot_one (f : Nat → Evt) {s m e k : Nat} (h : s ≤ k) (hk : k < s + (e - m)) : rotF f s m e k = f (k + (m - s)) := by
  unfold rotF; rw [if_pos ⟨h, hk⟩]
theorem rot_two (f : Nat → Evt) {s m e k : Nat} (h : s + (e - m) ≤ k) (hk : k < e) : rotF f s m e k = f (k - (e - m)) := by
  unfold rotF; rw [if_neg (by omega), if_pos ⟨h, hk⟩]
theorem rot_post (f : Nat → Evt) {s m e k : Nat} (h : e ≤ k) (hm : s ≤ m) (he : m ≤ e) : rotF f s m e k = f k := by
  unfold rotF; rw [if_neg (by omega), if_neg (by omega)]
theorem rot_none (f : Nat → Evt) {s m e : Nat} (h : s = m ∨ e = m) (hm : s ≤ m) (he : m ≤ e) (k : Nat) : f k = rotF f s m e k := by
  unfold rotF
  (repeat' split) <;> first | (exfalso; omega) | (congr 1; omega) | rfl
section
variable {f : Nat → Evt} {a m b mid s e : Nat}
theorem SymI.s1 (h : SymI f a m b mid s e) (hl : SortF f a m) : SortF (rotF f s m e) a s := fun k h1 h2 => by
  rw [rot_pre f (by omega), rot_pre f (by omega)]
  exact hl k h1 (by have := h.sm; omega)
theorem SymI.s2 (h : SymI f a m b mid s e) (hr : SortF f m b) : SortF (rotF f s m e) s mid := fun k h1 h2 => by
  have hm := h.mid
  have := h.sm; have := h.me; have := h.eb
  rw [rot_one f h1 (by omega), rot_one f (by omega) (by omega), show k + 1 + (m - s) = k + (m - s) + 1 by omega]
  exact hr _ (by omega) (by omega)
theorem SymI.s3 (h : SymI f a m b mid s e) (hl : SortF f a m) : SortF (rotF f s m e) mid e := fun k h1 h2 => by
  have hm := h.mid
  have := h.sm; have := h.me; have := h.aS
  rw [rot_two f (by omega) (by omega), rot_two f (by omega) (by omega), show k + 1 - (e - m) = k - (e - m) + 1 by omega]
  exact hl _ (by omega) (by omega)
theorem SymI.s4 (h : SymI f a m b mid s e) (hr : SortF f m b) : SortF (rotF f s m e) e b := fun k h1 h2 => by
  have := h.me
  rw [rot_post f h1 h.sm h.me, rot_post f (by omega) h.sm h.me]
  exact hr k (by omega) h2
theorem SymI.cross (h : SymI f a m b mid s e) (hl : SortF f a m) (hr : SortF f m b) (i j : Nat) (i1 : a ≤ i) (i2 : i < mid) (j1 : mid ≤ j) (j2 : j < b) : leE (rotF f s m e i) (rotF f s m e j) := by
  have hm := h.mid
  have h1 := h.sm; have h2 := h.me; have h3 := h.aS; have h4 := h.eb
  by_cases ci : i < s
  · rw [rot_pre f ci]
    by_cases cj : j < e
    · rw [rot_two f (by omega) cj]
      exact hl.le' i1 (by omega) (by omega)
    · rw [rot_post f (by omega) h.sm h.me]
      have hlo : leE (f (s - 1)) (f e) := by
        rcases h.lo with h | h | h
        · omega
        · omega
        · exact h
      exact leE_trans (hl.le' i1 (by omega) (by omega)) (leE_trans hlo (hr.le' (by omega) (by omega) j2))
  · rw [rot_one f (by omega) (by omega)]
    by_cases cj : j < e
    · rw [rot_two f (by omega) cj]
      have hhi : leE (f (e - 1)) (f s) := by
        rcases h.hi with h | h | h
        · omega
        · omega
        · exact ltE_le h
      exact leE_trans (hr.le' (by omega) (by omega) (by omega)) (leE_trans hhi (hl.le' (by omega) (by omega) (by omega)))
    · rw [rot_post f (by omega) h.sm h.me]
      exact hr.le' (by omega) (by omega) j2
end
/-- The two halves sorted, each within itself. -/
theorem sort_halves {F1 F2 F3 : Nat → Evt} {a mid b N : Nat} (h1 : Arr F1 F2 a mid N) (s1 : SortF F2 a mid) (h2 : Arr F2 F3 mid b N) (s2 : SortF F3 mid b)
    (hx : ∀ i j, a ≤ i → i < mid → mid ≤ j → j < b → leE (F1 i) (F1 j)) : SortF F3 a b := by
  refine SortF.join (m := mid) (fun k k1 k2 => ?_) s2 (fun i j i1 i2 j1 j2 => ?_)
  · rw [h2.out k (.inl (by omega)), h2.out (k + 1) (.inl (by omega))]
    exact s1 k k1 k2
  · rw [h2.out i (.inl i2)]
    obtain ⟨i', i3, i4, ei⟩ := h1.mem i i1 i2; obtain ⟨j', j3, j4, ej⟩ := h2.mem j j1 j2; rw [ei, ej, h1.out j' (.inr j3)]
    exact hx i' j' i3 i4 j3 j4
/-- One event ahead of a rising stretch goes to its place. -/
theorem sort_first {f : Nat → Evt} {a b i : Nat} (hr : SortF f (a + 1) b) (h1 : a + 1 ≤ i) (h2 : i ≤ b) (hlo : i = a + 1 ∨ ltE (f (i - 1)) (f a) = true) (hhi : i = b ∨ leE (f a) (f i)) : SortF (rotF f a (a + 1) i) a b := fun k k1 k2 => by
  by_cases c1 : k + 1 < i - 1
  · rw [rot_one f k1 (by omega), rot_one f (by omega) (by omega), show k + 1 + (a + 1 - a) = k + (a + 1 - a) + 1 by omega]
    exact hr _ (by omega) (by omega)
  · by_cases c2 : k + 1 = i - 1
    · rw [rot_one f k1 (by omega), rot_two f (by omega) (by omega), show k + (a + 1 - a) = i - 1 by omega, show k + 1 - (i - (a + 1)) = a by omega]
      rcases hlo with h | h
      · omega
      · exact ltE_le h
    · by_cases c3 : k + 1 = i
      · rw [rot_two f (by omega) (by omega), rot_post f (by omega) (by omega) (by omega), show k - (i - (a + 1)) = a by omega, c3]
        rcases hhi with h | h
        · omega
        · exact h
      · rw [rot_post f (by omega) (by omega) (by omega), rot_post f (by omega) (by omega) (by omega)]
        exact hr k (by omega) k2
/-- One event behind a rising stretch goes to its place. -/
theorem sort_last {f : Nat → Evt} {a m i : Nat} (hl : SortF f a m) (h1 : a ≤ i) (h2 : i ≤ m) (hlo : i = a ∨ leE (f (i - 1)) (f m)) (hhi : i = m ∨ ltE (f m) (f i) = true) : SortF (rotF f i m (m + 1)) a (m + 1) := fun k k1 k2 => by
  by_cases c1 : k + 1 < i
  · rw [rot_pre f (by omega), rot_pre f (by omega)]
    exact hl k k1 (by omega)
  · by_cases c2 : k + 1 = i
    · rw [rot_pre f (by omega), rot_one f (by omega) (by omega), show k + 1 + (m - i) = m by omega, show k = i - 1 by omega]
      rcases hlo with h | h
      · omega
      · exact h
    · by_cases c3 : k = i
      · rw [rot_one f (by omega) (by omega), rot_two f (by omega) (by omega), show k + (m - i) = m by omega, show k + 1 - (m + 1 - m) = i by omega]
        rcases hhi with h | h
        · omega
        · exact ltE_le h
      · rw [rot_two f (by omega) (by omega), rot_two f (by omega) (by omega), show k + 1 - (m + 1 - m) = k - (m + 1 - m) + 1 by omega]
        exact hl _ (by omega) (by omega)
theorem rot_grow (f : Nat → Evt) (a k : Nat) (h : a ≤ k) (l : Nat) : swp (rotF f a (a + 1) (k + 1)) k (k + 1) l = rotF f a (a + 1) (k + 1 + 1) l := by
  unfold swp rotF
  (repeat' split) <;> first | (exfalso; omega) | (congr 1; omega) | rfl
theorem rot_down (f : Nat → Evt) (m k : Nat) (h : k + 1 ≤ m) (l : Nat) : swp (rotF f (k + 1) m (m + 1)) k (k + 1) l = rotF f k m (m + 1) l := by
  unfold swp rotF
  (repeat' split) <;> first | (exfalso; omega) | (congr 1; omega) | rfl
end Go.Proofs.Ytjdoealcmokakaa

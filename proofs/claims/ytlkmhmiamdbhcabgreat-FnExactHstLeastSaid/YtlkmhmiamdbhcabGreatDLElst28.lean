/-
  A host at work, in one sentence: its block of thirteen cells, its lists in rows of the call's own, what is called off in a map; no condition is made.
  What keeps returns, and every of what is kept, in one sentence: whether all are of the model; for every machine and every list that lies in memory.
-/
import Derived.Test.YtlkmhmiamdbhcabGreatDLElst11
import Derived.Test.YtlkmhmiamdbhcabGreatDLElst13
import Derived.Test.YtlkmhmiamdbhcabGreatDLElst23
import Derived.Test.YtlkmhmiamdbhcabGreatDLElst27
namespace Go.Proofs.YtlkmhmiamdbhcabGreat
set_option maxRecDepth 100000
open Go.RowKit
/-- One row holds one list. -/
theorem own_same {w : World} {b e size n : Nat} {v : Value} {xs ys : List Value} (h : w.ownsRow b e size v n xs) (k : w.ownsRow b e size v n ys) : xs = ys := by
  rcases h.2 with ⟨rfl, h0⟩ | ⟨g1, cap, cur, rfl, _, hb, _, _, _, ht⟩
  · rcases k.2 with ⟨_, k0⟩ | ⟨g2, _, _, hv, _⟩
    · have h1 := h.1
      have k1 := k.1
      subst h0; simp at h1 k1; rw [h1, k1]
    · cases hv
  · rcases k.2 with ⟨hv, _⟩ | ⟨g2, cap2, cur2, hv, _, hb2, _, _, _, ht2⟩
    · cases hv
    · injection hv with hv
      injection hv with hv
      injection hv with hv
      subst hv; rw [hb] at hb2
      injection hb2 with hb2
      injection hb2 with hb2
      subst hb2; rw [← ht, ht2]
/-- What was done, in a row of the call's own, and each list that was sent in one. -/
def DonW (w : World) (lo : Nat) (v : Value) (n : Nat) (ds : List Don) : Prop :=
  ∃ ss : List Value, ss.length = n ∧ ds.length = n ∧ w.ownsRow lo 117 12 v n (flat12 (ds.zip ss)) ∧ ∀ i, i < n → w.ownsRow lo 109 7 (ss.getD i (.int .i64 0)) (ds.getD i default).sent.length (flat7 (ds.getD i default).sent)
theorem DonW.start (w : World) (lo : Nat) : DonW w lo (.slice none 0 0) 0 [] := ⟨[], rfl, rfl, ⟨rfl, .inl ⟨rfl, rfl⟩⟩, fun i h => absurd h (by omega)⟩
theorem DonW.up {w w' : World} {lo n : Nat} {v : Value} {ds : List Don} (h : DonW w lo v n ds) (u : Up w w') : DonW w' lo v n ds := by
  obtain ⟨ss, h1, h2, h3, h4⟩ := h
  exact ⟨ss, h1, h2, own_up h3 u, fun i hi => own_up (h4 i hi) u⟩
theorem DonW.mv {w w' : World} {lo n g : Nat} {v : Value} {ds : List Don} (h : DonW w lo v n ds) (m : Mv g w w') (hg : ∀ cs e, w.heap[g]? ≠ some (.cells cs e (0, 0))) : DonW w' lo v n ds := by
  have kp : ∀ {e size k : Nat} {x : Value} {xs : List Value}, w.ownsRow lo e size x k xs → w'.ownsRow lo e size x k xs := fun {e size k x xs} ho => own_keep ho fun q hq hl => m.block q hl fun e1 => by
    subst e1
    rcases ho.2 with ⟨rfl, _⟩ | ⟨g1, cap, cur, rfl, _, hb, _⟩
    · cases hq
    · injection hq with hq
      have hq : g1 = q := hq
      subst hq
      exact hg _ _ hb
  obtain ⟨ss, h1, h2, h3, h4⟩ := h
  exact ⟨ss, h1, h2, kp h3, fun i hi => kp (h4 i hi)⟩
theorem DonW.own {w : World} {lo n : Nat} {v : Value} {ds : List Don} (h : DonW w lo v n ds) : ∃ xs, w.ownsRow lo 117 12 v n xs := by
  obtain ⟨ss, _, _, h, _⟩ := h
  exact ⟨_, h⟩
/-- One more. -/
theorem DonW.push {w w' : World} {lo p o T n : Nat} {v s : Value} {ds : List Don} {d : Don} {arr : Array Value} {xs : List Value} (h : DonW w lo v n ds) (hs : w.ownsRow lo 109 7 s d.sent.length (flat7 d.sent)) (hx : w.ownsRow lo 117 12 v n xs) (hp : PushD lo p o n v arr T xs (d.c12 s) w w') (hB : Blk w p T arr) (hT : 109 ≠ T) :
    ∃ v', DonW w' lo v' (n + 1) (ds ++ [d]) ∧ Blk w' p T (arr.setIfInBounds o v') ∧ Fr2 p v.ownBlock w w' ∧ (v'.ownBlock = v.ownBlock ∨ ∃ g, v'.ownBlock = some g ∧ w.heap.size ≤ g) := by
  obtain ⟨ss, h1, h2, h3, h4⟩ := h; obtain ⟨v', k1, k2, k3, k4⟩ := hp
  have kp : ∀ {k : Nat} {x : Value} {ys : List Value}, w.ownsRow lo 109 7 x k ys → w'.ownsRow lo 109 7 x k ys := fun {k x ys} ho => k4.own ho (own_off ho hB hT) fun g hg e => own_apart ho h3 (by decide) g hg e.symm
  have hxs : xs = flat12 (ds.zip ss) := own_same hx h3
  subst hxs; refine ⟨v', ⟨ss ++ [s], by simp [h1], by simp [h2], ?_, fun i hi => ?_⟩, k2, k4, k3⟩
  · rw [List.zip_append (by omega), flat12_app]
    simpa [flat12] using k1
  · by_cases e : i < n
    · have := kp (h4 i e)
      have e1 : (ss ++ [s]).getD i (.int .i64 0) = ss.getD i (.int .i64 0) := by simp [List.getD, List.getElem?_append, show i < ss.length by omega]
      have e2 : (ds ++ [d]).getD i default = ds.getD i default := by simp [List.getD, List.getElem?_append, show i < ds.length by omega]
      rw [e1, e2]
      exact this
    · obtain rfl : i = n := by omega
      have e1 : (ss ++ [s]).getD i (.int .i64 0) = s := by
        rw [← h1]; simp
      have e2 : (ds ++ [d]).getD i default = d := by
        rw [← h2]; simp
      rw [e1, e2]
      exact kp hs
/-- A host at work. -/
structure HostW (w : World) (lo g bm mb : Nat) (many til comp c0 c1 c2 ids : Int) (v vw vk : Value) (nd nw N nk : Nat) (ds : List Don) (ws vs : List Rec) (ks : List Kep) : Prop where
  lo_ : lo ≤ g
  blk : Blk w g 134 #[.map (some mb), .int .i64 many, .int .i64 til, .int .i64 comp, .int .i64 c0, .int .i64 c1, .int .i64 c2, .int .i64 ids, v, .int .i64 0, vw, .map (some bm), vk]
  done : DonW w lo v nd ds
  wait : w.ownsRow lo 109 7 vw nw (flat7 ws)
  keep : w.ownsRow lo 111 13 vk nk (flat13 ks)
  lm : lo ≤ bm
  anti : ISet w bm N vs
theorem HostW.up {w w' : World} {lo g bm mb : Nat} {many til comp c0 c1 c2 ids : Int} {v vw vk : Value} {nd nw N nk : Nat} {ds : List Don} {ws vs : List Rec} {ks : List Kep} (h : HostW w lo g bm mb many til comp c0 c1 c2 ids v vw vk nd nw N nk ds ws vs ks) (u : Up w w') : HostW w' lo g bm mb many til comp c0 c1 c2 ids v vw vk nd nw N nk ds ws vs ks :=
  ⟨h.lo_, h.blk.up u, h.done.up u, own_up h.wait u, own_up h.keep u, h.lm, h.anti.up u⟩
theorem Blk.ne {w : World} {b b' e e' : Nat} {arr arr' : Array Value} (h : Blk w b e arr) (k : Blk w b' e' arr') (he : e ≠ e') : b ≠ b' := fun x => by
  subst x; unfold Blk at h k; rw [h] at k
  injection k with k
  injection k with _ k _
  exact he k
theorem HostW.off {w : World} {lo g bm mb : Nat} {many til comp c0 c1 c2 ids : Int} {v vw vk : Value} {nd nw N nk : Nat} {ds : List Don} {ws vs : List Rec} {ks : List Kep} (h : HostW w lo g bm mb many til comp c0 c1 c2 ids v vw vk nd nw N nk ds ws vs ks) : v.ownBlock ≠ some g := fun e => by
  obtain ⟨xs, ho⟩ := h.done.own
  exact own_off ho h.blk (by decide) g e rfl
theorem HostW.mono {w : World} {lo lo' g bm mb : Nat} {many til comp c0 c1 c2 ids : Int} {v vw vk : Value} {nd nw N nk : Nat} {ds : List Don} {ws vs : List Rec} {ks : List Kep} (h : HostW w lo g bm mb many til comp c0 c1 c2 ids v vw vk nd nw N nk ds ws vs ks) (hl : lo' ≤ lo) : HostW w lo' g bm mb many til comp c0 c1 c2 ids v vw vk nd nw N nk ds ws vs ks := by
  obtain ⟨ss, h1, h2, h3, h4⟩ := h.done
  exact ⟨Nat.le_trans hl h.lo_, h.blk, ⟨ss, h1, h2, own_mono h3 hl, fun i hi => own_mono (h4 i hi) hl⟩, own_mono h.wait hl, own_mono h.keep hl, Nat.le_trans hl h.lm, h.anti⟩
theorem ISet.map {w : World} {b n : Nat} {S : List Rec} (h : ISet w b n S) : ∃ es cl, w.heap[b]? = some (.map es cl) := by
  obtain ⟨D, ⟨es, cl, hb, _⟩, _⟩ := h
  exact ⟨es, cl, hb⟩
theorem HostW.push {w w' : World} {lo g bm mb : Nat} {many til comp c0 c1 c2 ids : Int} {v vw vk s : Value} {nd nw N nk : Nat} {ds : List Don} {ws vs : List Rec} {ks : List Kep} {d : Don} {xs : List Value} (h : HostW w lo g bm mb many til comp c0 c1 c2 ids v vw vk nd nw N nk ds ws vs ks) (hs : w.ownsRow lo 109 7 s d.sent.length (flat7 d.sent)) (hx : w.ownsRow lo 117 12 v nd xs)
    (hp : PushD lo g 8 nd v #[.map (some mb), .int .i64 many, .int .i64 til, .int .i64 comp, .int .i64 c0, .int .i64 c1, .int .i64 c2, .int .i64 ids, v, .int .i64 0, vw, .map (some bm), vk] 134 xs (d.c12 s) w w') : ∃ v', HostW w' lo g bm mb many til comp c0 c1 c2 ids v' vw vk (nd + 1) nw N nk (ds ++ [d]) ws vs ks ∧ Fr2 g v.ownBlock w w' := by
  obtain ⟨v', k1, k2, k3, _⟩ := h.done.push hs hx hp h.blk (by decide); obtain ⟨es, cl, hm⟩ := h.anti.map; refine ⟨v', ⟨h.lo_, k2, k1, k3.own h.wait (own_off h.wait h.blk (by decide)) fun q hq e => own_apart h.wait hx (by decide) q hq e.symm, k3.own h.keep (own_off h.keep h.blk (by decide)) fun q hq e => own_apart h.keep hx (by decide) q hq e.symm, h.lm, h.anti.block (k3.block bm h.anti.lt (fun e => ?_) (fun e => ?_))⟩, k3⟩
  · subst e
    rw [h.blk] at hm
    cases hm
  · rcases hx.2 with ⟨rfl, _⟩ | ⟨g1, cap, cur, rfl, _, hb, _⟩
    · cases e
    · injection e with e
      have e : bm = g1 := e
      subst e; rw [hb] at hm
      cases hm
theorem HostW.store {w w' : World} {lo g bm mb : Nat} {many til comp c0 c1 c2 ids : Int} {v vw vk : Value} {nd nw N N' nk : Nat} {ds : List Don} {ws vs vs' : List Rec} {ks : List Kep} (h : HostW w lo g bm mb many til comp c0 c1 c2 ids v vw vk nd nw N nk ds ws vs ks) (ha : ISet w' bm N' vs') (m : Mv bm w w') : HostW w' lo g bm mb many til comp c0 c1 c2 ids v vw vk nd nw N' nk ds ws vs' ks := by
  obtain ⟨es, cl, hm⟩ := h.anti.map
  have hne : ∀ cs e, w.heap[bm]? ≠ some (.cells cs e (0, 0)) := fun cs e k => by
    rw [hm] at k
    cases k
  have kp : ∀ {e size k : Nat} {x : Value} {ys : List Value}, w.ownsRow lo e size x k ys → w'.ownsRow lo e size x k ys := fun {e size k x ys} ho => own_keep ho fun q hq hl => m.block q hl fun e1 => by
    subst e1
    rcases ho.2 with ⟨rfl, _⟩ | ⟨g1, cap, cur, rfl, _, hb, _⟩
    · cases hq
    · injection hq with hq
      have hq : g1 = q := hq
      subst hq
      exact hne _ _ hb
  exact ⟨h.lo_, h.blk.mv m (fun e => by subst e; exact hne _ _ h.blk), h.done.mv m hne, kp h.wait, kp h.keep, h.lm, ha⟩
end Go.Proofs.YtlkmhmiamdbhcabGreat

namespace Go.Proofs.YtlkmhmiamdbhcabGreat
set_option maxRecDepth 100000
open Go.RowKit
set_option maxHeartbeats 8000000 in
theorem keeps_any (mp : Option Nat) (many til comp ids : Int) (k : Kep) (w : World) :
    Calls Tryz.prog 100 #[.agg #[.map mp, .int .i64 many, .int .i64 til], .int .i64 comp, .int .i64 ids, k.v] w fun x w' => x = .returned (.bool (keepB many til comp ids k)) ∧ Up w w' := by
  have hf := Lib.hid (show keepB many til comp ids k = (okB k.by_ many && (decide (k.by_.to = comp) && (itemB many til k.sent && (decide (k.sent.ev.fr = comp) && (decide (k.sent.s < ids) && decide (k.by_.t < k.sent.ev.t)))))) from rfl)
  have c0 := fun W => implOk_any k.by_ many W
  have c1 := fun W => itemOk_any mp many til k.sent W
  generalize keepB many til comp ids k = res at hf ⊢
  generalize okB k.by_ many = b1 at hf c0
  generalize itemB many til k.sent = b2 at hf c1
  obtain ⟨⟨a0, a1, a2, a3, a4, a5⟩, ⟨⟨a6, a7, a8, a9, a10, a11⟩, a12⟩⟩ := k; unfold Kep.v; unfold Evt.v at c0; unfold Rec.v at c1; dsimp only at hf c0 c1 ⊢
  have C0 := Lib.hid c0
  have C1 := Lib.hid c1
  clear c0 c1
  have X := Lib.hid (((Blk.new w #[.map mp, .int .i64 many, .int .i64 til] 125).alloc (.cells #[.int .i64 a0, .int .i64 a1, .int .i64 a2, .int .i64 a3, .int .i64 a4, .int .i64 a5, .int .i64 a6, .int .i64 a7, .int .i64 a8, .int .i64 a9, .int .i64 a10, .int .i64 a11, .int .i64 a12] 111)).alloc (.cells #[.int .i64 a6, .int .i64 a7, .int .i64 a8, .int .i64 a9, .int .i64 a10, .int .i64 a11, .int .i64 a12] 109))
  have Y := Lib.hid ((Blk.new (w.alloc (.cells #[.map mp, .int .i64 many, .int .i64 til] 125)) #[.int .i64 a0, .int .i64 a1, .int .i64 a2, .int .i64 a3, .int .i64 a4, .int .i64 a5, .int .i64 a6, .int .i64 a7, .int .i64 a8, .int .i64 a9, .int .i64 a10, .int .i64 a11, .int .i64 a12] 111).alloc (.cells #[.int .i64 a6, .int .i64 a7, .int .i64 a8, .int .i64 a9, .int .i64 a10, .int .i64 a11, .int .i64 a12] 109))
  have Z := Lib.hid (Blk.new ((w.alloc (.cells #[.map mp, .int .i64 many, .int .i64 til] 125)).alloc (.cells #[.int .i64 a0, .int .i64 a1, .int .i64 a2, .int .i64 a3, .int .i64 a4, .int .i64 a5, .int .i64 a6, .int .i64 a7, .int .i64 a8, .int .i64 a9, .int .i64 a10, .int .i64 a11, .int .i64 a12] 111)) #[.int .i64 a6, .int .i64 a7, .int .i64 a8, .int .i64 a9, .int .i64 a10, .int .i64 a11, .int .i64 a12] 109)
  simp only [World.size_alloc] at Y Z
  have U := Lib.hid ((((Up.refl w).alloc (.cells #[.map mp, .int .i64 many, .int .i64 til] 125)).alloc (.cells #[.int .i64 a0, .int .i64 a1, .int .i64 a2, .int .i64 a3, .int .i64 a4, .int .i64 a5, .int .i64 a6, .int .i64 a7, .int .i64 a8, .int .i64 a9, .int .i64 a10, .int .i64 a11, .int .i64 a12] 111)).alloc (.cells #[.int .i64 a6, .int .i64 a7, .int .i64 a8, .int .i64 a9, .int .i64 a10, .int .i64 a11, .int .i64 a12] 109))
  go_enter Tryz.func100, Tryz.ntmps100
  go_wp2_with fail
  generalize ((w.alloc (.cells #[.map mp, .int .i64 many, .int .i64 til] 125)).alloc (.cells #[.int .i64 a0, .int .i64 a1, .int .i64 a2, .int .i64 a3, .int .i64 a4, .int .i64 a5, .int .i64 a6, .int .i64 a7, .int .i64 a8, .int .i64 a9, .int .i64 a10, .int .i64 a11, .int .i64 a12] 111)).alloc (.cells #[.int .i64 a6, .int .i64 a7, .int .i64 a8, .int .i64 a9, .int .i64 a10, .int .i64 a11, .int .i64 a12] 109) = W at *
  generalize hb2 : w.heap.size + 1 + 1 = bZ at *
  generalize hb1 : w.heap.size + 1 = bY at *
  generalize hb0 : w.heap.size = bX at *
  clear hb0 hb1 hb2; refine (C0.out _).mono ?_; rintro x w1 ⟨rfl, u⟩
  have U := Lib.hid (U.out.trans u)
  have X := Lib.hid (X.out.up u)
  have Y := Lib.hid (Y.out.up u)
  have Z := Lib.hid (Z.out.up u)
  clear u
  cases b1
  · have HR := Lib.hid (show res = false by rw [hf.out]; simp)
    clear hf; go_wp2; go_ret
    exact ⟨ret_bool HR.out.symm, U.out⟩
  · by_cases h1 : a1 = comp
    · have y1 := Y.out.cell (j := 1) rfl
      obtain ⟨x0, x1, x2⟩ := And.intro (X.out.cell (j := 0) rfl) (And.intro (X.out.cell (j := 1) rfl) (X.out.cell (j := 2) rfl))
      have z0 := Z.out.cell (j := 0) rfl
      have z1 := Z.out.cell (j := 1) rfl
      have z2 := Z.out.cell (j := 2) rfl
      have z3 := Z.out.cell (j := 3) rfl
      have z4 := Z.out.cell (j := 4) rfl
      have z5 := Z.out.cell (j := 5) rfl
      have z6 := Z.out.cell (j := 6) rfl
      have lx := X.out.lt
      have ly := Y.out.lt
      have lz := Z.out.lt
      go_wp2_with fail
      refine (C1.out _).mono ?_; rintro x w2 ⟨rfl, u⟩
      have U := Lib.hid (U.out.trans u)
      have X := Lib.hid (X.out.up u)
      have Y := Lib.hid (Y.out.up u)
      have Z := Lib.hid (Z.out.up u)
      clear u x0 x1 x2 y1 lx ly lz z0 z1 z2 z3 z4 z5 z6
      cases b2
      · have HR := Lib.hid (show res = false by rw [hf.out]; simp)
        clear hf; go_wp2; go_ret
        exact ⟨ret_bool HR.out.symm, U.out⟩
      · have y0 := Y.out.cell (j := 0) rfl
        have z0 := Z.out.cell (j := 0) rfl
        have z2 := Z.out.cell (j := 2) rfl
        have z6 := Z.out.cell (j := 6) rfl
        have ly := Y.out.lt
        have lz := Z.out.lt
        by_cases h2 : a8 = comp
        · by_cases h3 : a12 < ids
          · have HR := Lib.hid (show res = decide (a0 < a6) by rw [hf.out]; simp [h1, h2, h3])
            clear hf; go_wp2; go_ret
            exact ⟨ret_bool (by rw [HR.out]), U.out⟩
          · have HR := Lib.hid (show res = false by rw [hf.out]; simp [h3])
            have h4 : decide (a12 < ids) = false := decide_eq_false h3
            clear hf; go_wp2; go_ret
            exact ⟨ret_bool HR.out.symm, U.out⟩
        · have HR := Lib.hid (show res = false by rw [hf.out]; simp [h2])
          have h4 : (a8 == comp) = false := by simpa using h2
          have h5 : decide (a8 = comp) = false := decide_eq_false h2
          clear hf; go_wp2; go_ret
          exact ⟨ret_bool HR.out.symm, U.out⟩
    · have HR := Lib.hid (show res = false by rw [hf.out]; simp [h1])
      have h4 : (a1 == comp) = false := by simpa using h1
      have h5 : decide (a1 = comp) = false := decide_eq_false h1
      have y1 := Y.out.cell (j := 1) rfl
      have ly := Y.out.lt
      clear hf; go_wp2; go_ret
      exact ⟨ret_bool HR.out.symm, U.out⟩
set_option maxHeartbeats 4000000 in
theorem hosts1_any (mp : Option Nat) (many til comp ids : Int) (k : Kep) (bM bC bH : Nat) (arr : Array Value) (w : World) (hM : Blk w bM 125 #[.map mp, .int .i64 many, .int .i64 til]) (hC : Blk w bC 3 #[.int .i64 comp]) (hH : Blk w bH 46 arr) (hA : arr[3]? = some (.int .i64 ids)) :
    Calls Tryz.prog 99 #[k.v, .pointer (some ⟨bM, 0, none⟩), .pointer (some ⟨bC, 0, none⟩), .pointer (some ⟨bH, 0, none⟩)] w fun z w' => z = .returned (.bool (keepB many til comp ids k)) ∧ Up w w' := by
  have ct := fun W => keeps_any mp many til comp ids k W
  generalize keepB many til comp ids k = b at ct ⊢
  obtain ⟨⟨a0, a1, a2, a3, a4, a5⟩, ⟨⟨a6, a7, a8, a9, a10, a11⟩, a12⟩⟩ := k; unfold Kep.v at ct ⊢; dsimp only at ct ⊢
  have CT := Lib.hid ct
  have U := Lib.hid ((Up.refl w).alloc (.cells #[.int .i64 a0, .int .i64 a1, .int .i64 a2, .int .i64 a3, .int .i64 a4, .int .i64 a5, .int .i64 a6, .int .i64 a7, .int .i64 a8, .int .i64 a9, .int .i64 a10, .int .i64 a11, .int .i64 a12] 111))
  obtain ⟨m0, m1, m2⟩ := And.intro ((hM.up U.out).cell (j := 0) rfl) (And.intro ((hM.up U.out).cell (j := 1) rfl) ((hM.up U.out).cell (j := 2) rfl))
  have c0 := (hC.up U.out).cell (j := 0) rfl
  have h3 := (hH.up U.out).cell (j := 3) hA
  have lm := (hM.up U.out).lt
  have lc := (hC.up U.out).lt
  have lh := (hH.up U.out).lt
  clear hM hC hH hA ct
  go_enter Tryz.func99, Tryz.ntmps99
  go_wp2_with fail
  refine (CT.out _).mono ?_; rintro v w1 ⟨rfl, u1⟩
  have U := Lib.hid (U.out.trans u1)
  clear u1 m0 m1 m2 c0 h3 lm lc lh; go_wp2; go_ret
  exact ⟨rfl, U.out⟩
set_option maxHeartbeats 4000000 in
theorem everyK_any (A : Option Addr) (n cap : Nat) (xs : List Kep) (mp : Option Nat) (many til comp ids : Int) (bM bC bH : Nat) (arr : Array Value) (w : World) (hn : n ≤ 4194304) (hE : Keps w A n xs) (hM : Blk w bM 125 #[.map mp, .int .i64 many, .int .i64 til]) (hC : Blk w bC 3 #[.int .i64 comp]) (hH : Blk w bH 46 arr) (hA : arr[3]? = some (.int .i64 ids)) :
    Calls Tryz.prog 98 #[.slice A n cap, .func (.func 99) #[] #[.pointer (some ⟨bM, 0, none⟩), .pointer (some ⟨bC, 0, none⟩), .pointer (some ⟨bH, 0, none⟩)]] w fun x w' => x = .returned (.bool (xs.all (keepB many til comp ids))) ∧ Up w w' := by
  have AD := Lib.hid (fun k h => all_drop (f := keepB many til comp ids) (d := default) xs k h)
  have AE := Lib.hid (fun k h => all_end (f := keepB many til comp ids) xs k h)
  have CL := Lib.hid (fun x W (u : Up w W) => hosts1_any mp many til comp ids x bM bC bH arr W (hM.up u) (hC.up u) (hH.up u) hA)
  have HE := Lib.hid hE
  have LE := Lib.hid hE.1
  have H0 := Lib.hid (show (xs.drop 0).all (keepB many til comp ids) = xs.all (keepB many til comp ids) from rfl)
  generalize xs.all (keepB many til comp ids) = res at H0 ⊢
  clear hE hM hC hH
  go_enter Tryz.func98, Tryz.ntmps98
  go_wp2
  go_loopw [9] (fun i wr => (∃ k : Nat, k ≤ n ∧ i = .int .i64 k ∧ Hid ((xs.drop k).all (keepB many til comp ids) = res)) ∧ Up w wr) (fun i _ => n - (intOf i).toNat)
  case atStart => exact ⟨⟨0, by omega, rfl, H0⟩, Up.refl _⟩
  case round =>
    obtain ⟨⟨k, hk, rfl, HR⟩, ur⟩ := hrel
    by_cases hlt : k < n
    · obtain ⟨b, off, hA, hb, hc⟩ := HE.out.2 (by omega)
      subst hA
      have a0 := (hc k hlt).up ur hb
      have hb' : b < wr.heap.size := by have := ur.size; omega
      clear hc
      have S := AD.out k (by rw [LE.out]; exact hlt)
      have cl := CL.out (xs.getD k default)
      generalize xs.getD k default = p at a0 S cl
      generalize hfp : (keepB many til comp ids) p = r at S cl
      have S' := Lib.hid S
      clear S hfp; unfold KepAt at a0; unfold Kep.v at cl; obtain ⟨p0, p1, p2, p3, p4, p5, p6, p7, p8, p9, p10, p11, p12⟩ := a0
      have C := Lib.hid cl
      clear cl
      have i4 : (k : Int) < n := by omega
      have UR := Lib.hid ur
      clear ur
      go_wp2_with fail
      refine (C.out _ (UR.out.alloc _)).mono ?_; rintro x wA ⟨rfl, uA⟩
      have UN := Lib.hid ((UR.out.alloc _).trans uA)
      clear uA
      cases r
      · have HF := Lib.hid (show res = false by rw [← HR.out, S'.out]; rfl)
        go_wp2; go_ret
        exact ⟨ret_bool HF.out.symm, UN.out⟩
      · have HN := Lib.hid (show (xs.drop (k + 1)).all (keepB many til comp ids) = res by rw [← HR.out, S'.out]; rfl)
        go_wp2
        go_roundw
        case rel => exact ⟨⟨k + 1, by omega, by go_num, HN⟩, UN.out⟩
        case measure => simp [intOf]; omega
    · obtain rfl : k = n := by omega
      have i4 : ¬ (k : Int) < k := by omega
      have HT := Lib.hid (show res = true by rw [← HR.out]; exact AE.out k (by rw [LE.out]; omega))
      have UR := Lib.hid ur
      clear ur; go_wp2; go_ret
      exact ⟨ret_bool HT.out.symm, UR.out⟩
end Go.Proofs.YtlkmhmiamdbhcabGreat

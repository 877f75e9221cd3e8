/- Several texts in one. -/
import Derived.Test.YtdddhmipifkepaaGreatMq16
import Derived.Test.YtdddhmipifkepaaGreatMq11
set_option linter.unusedSimpArgs false
namespace Go.Proofs.YtdddhmipifkepaaGreat
set_option maxRecDepth 100000
open Go.RowKit
structure WayR (w w' : World) (bh seed b g root : Nat) (ow : Int) (k : Ky) (x : Wv) (cl : List (Nat × Nat)) (lf : List Pr) : Prop where
  kp : Kp (fun q => q = bh) w w'
  hh : Hs w' bh seed
  xb : x.b = b ∧ x.bh = bh ∧ x.ow = ow ∧ x.g = g ∧ x.root = root ∧ x.at' = 2 * lowN k lf ∧ x.has = hasN k lf
  o4 : w'.ownsRow w.heap.size 3 1 (.slice x.A4 x.n4 x.c4) x.n4 (nums (ns (cl.map Prod.fst)))
  o5 : w'.ownsRow w.heap.size 3 1 (.slice x.A5 x.n5 x.c5) x.n5 (nums (ns (cl.map Prod.snd)))
  o6 : w'.ownsRow w.heap.size 36 3 (.slice x.A6 x.n6 x.c6) x.n6 ((flatP lf).flatMap cells3)
  len : x.n4 = cl.length ∧ x.n5 = cl.length ∧ x.n6 = (flatP lf).length
structure Wt (w W : World) (bh seed zl zk zr z10 b : Nat) (k : Ky) (ow : Int) (g root : Nat) (n4 n5 : Nat) (is ls : List Nat) (vs : List V3) (A4 : Option Addr) (c4 : Nat) (A5 : Option Addr) (c5 : Nat) (A6 : Option Addr) (n6 c6 : Nat) : Prop where
  kp : Kp (fun q => q = bh) w W
  hh : Hs W bh seed
  lb : C2 W zl 26 (ap b) (.pointer (some ⟨bh, 0, none⟩))
  kb : C3 W zk 36 (.int .u8 k.1) (.int .i64 k.2.1) (.string k.2.2)
  rb : ZW W zr
  wy : WC W z10 ⟨b, bh, ow, g, root, A4, n4, c4, A5, n5, c5, A6, n6, c6, 0, false⟩
  o4 : W.ownsRow w.heap.size 3 1 (.slice A4 n4 c4) n4 (nums (ns is))
  o5 : W.ownsRow w.heap.size 3 1 (.slice A5 n5 c5) n5 (nums (ns ls))
  o6 : W.ownsRow w.heap.size 36 3 (.slice A6 n6 c6) n6 (vs.flatMap cells3)
  ne : ∀ q, (Value.slice A4 n4 c4).ownBlock = some q → (Value.slice A5 n5 c5).ownBlock ≠ some q
  far : bh < w.heap.size ∧ w.heap.size ≤ zl ∧ w.heap.size ≤ zk ∧ w.heap.size ≤ zr ∧ w.heap.size ≤ z10 ∧ zl ≠ z10 ∧ zk ≠ z10 ∧ zr ≠ z10
section
variable {w W W' : World} {bh seed zl zk zr z10 b : Nat} {k : Ky} {ow : Int} {g root n4 n5 : Nat} {is ls : List Nat} {vs : List V3} {A4 : Option Addr} {c4 : Nat} {A5 : Option Addr} {c5 : Nat} {A6 : Option Addr} {n6 c6 : Nat}
theorem Wt.below (h : Wt w W bh seed zl zk zr z10 b k ow g root n4 n5 is ls vs A4 c4 A5 c5 A6 n6 c6) (hb : Below W.heap.size W W') : Wt w W' bh seed zl zk zr z10 b k ow g root n4 n5 is ls vs A4 c4 A5 c5 A6 n6 c6 := by
  have hk := Kp.of_below hb (fun _ => False)
  exact ⟨h.kp.trans hk (fun _ h => h.elim), h.hh.below hb, h.lb.below hb, h.kb.below hb, h.rb.kp hk id, h.wy.below hb, hk.own h.o4 (fun _ _ h => h), hk.own h.o5 (fun _ _ h => h), hk.own h.o6 (fun _ _ h => h), h.ne, h.far⟩
theorem Wt.wy4 (h : Wt w W bh seed zl zk zr z10 b k ow g root n4 n5 is ls vs A4 c4 A5 c5 A6 n6 c6) (hg : W.grownBy W' (Value.slice A4 n4 c4).ownBlock) : WC W' z10 ⟨b, bh, ow, g, root, A4, n4, c4, A5, n5, c5, A6, n6, c6, 0, false⟩ :=
  h.wy.kp (Kp.of_grown (F := fun q => (Value.slice A4 n4 c4).ownBlock = some q) hg (fun q hq => .inl hq)) (fun e => own_ne h.o4 h.wy (by decide) _ e rfl)
theorem Wt.wy5 (h : Wt w W bh seed zl zk zr z10 b k ow g root n4 n5 is ls vs A4 c4 A5 c5 A6 n6 c6) (hg : W.grownBy W' (Value.slice A5 n5 c5).ownBlock) : WC W' z10 ⟨b, bh, ow, g, root, A4, n4, c4, A5, n5, c5, A6, n6, c6, 0, false⟩ :=
  h.wy.kp (Kp.of_grown (F := fun q => (Value.slice A5 n5 c5).ownBlock = some q) hg (fun q hq => .inl hq)) (fun e => own_ne h.o5 h.wy (by decide) _ e rfl)
theorem Wt.app4 (h : Wt w W bh seed zl zk zr z10 b k ow g root n4 n5 is ls vs A4 c4 A5 c5 A6 n6 c6) {A4' : Option Addr} {c4' : Nat} {is' : List Nat} {n4' : Nat} (ho : W'.ownsRow w.heap.size 3 1 (.slice A4' n4' c4') n4' (nums (ns is'))) (hg : W.grownBy W' (Value.slice A4 n4 c4).ownBlock) (hat : (Value.slice A4' n4' c4').ownBlock = (Value.slice A4 n4 c4).ownBlock ∨ (Value.slice A4' n4' c4').ownBlock = some W.heap.size) :
    Wt w (W'.setCell ⟨z10, 5, none⟩ (.slice A4' n4' c4')) bh seed zl zk zr z10 b k ow g root n4' n5 is' ls vs A4' c4' A5 c5 A6 n6 c6 := by
  obtain ⟨f0, f1, f2, f3, f4, f5, f6, f7⟩ := h.far
  have hk : Kp (fun q => (Value.slice A4 n4 c4).ownBlock = some q) W W' := Kp.of_grown hg (fun q hq => .inl hq)
  have t1 : ∀ {z t : Nat} {cur : Array Value} {y : Nat × Nat}, W.heap[z]? = some (.cells cur t y) → 3 ≠ t → ¬ (Value.slice A4 n4 c4).ownBlock = some z := fun hz ht e => own_ne h.o4 hz ht _ e rfl
  have b1 : ¬ (Value.slice A4 n4 c4).ownBlock = some bh := fun e => by have := (own_blk h.o4 _ e).1; omega
  have hk2 : Kp (fun q => q = z10) W' (W'.setCell ⟨z10, 5, none⟩ (.slice A4' n4' c4')) := Kp.one W' z10 5 _
  have n6' : ∀ q, (Value.slice A6 n6 c6).ownBlock = some q → ¬ (Value.slice A4 n4 c4).ownBlock = some q := fun q hq e => by
    obtain ⟨cur, hcur⟩ := own_type h.o4 q e
    exact own_ne h.o6 hcur (by decide) q hq rfl
  have nz : ∀ {v : Value} {e n sz : Nat} {xs : List Value}, W'.ownsRow w.heap.size e sz v n xs → e ≠ 169 → ∀ q, v.ownBlock = some q → ¬ q = z10 := fun ho he q hq => own_ne ho (h.wy.kp hk (t1 h.wy (by decide))) he q hq
  have o5' := hk.own h.o5 (fun q hq e => h.ne q e hq)
  have o6' := hk.own h.o6 n6'
  refine ⟨(h.kp.trans hk (fun q e => .inr (own_blk h.o4 q e).1)).trans hk2 (fun q e => .inr (by omega)), (h.hh.kp hk b1).kp hk2 (by omega), (h.lb.kp hk (t1 h.lb (by decide))).kp hk2 f5, (h.kb.kp hk (t1 h.kb (by decide))).kp hk2 f6, (h.rb.kp hk (t1 h.rb (by decide))).kp hk2 f7, (h.wy.kp hk (t1 h.wy (by decide))).set5 A4' n4' c4', hk2.own ho (nz ho (by decide)), hk2.own o5' (nz o5' (by decide)), hk2.own o6' (nz o6' (by decide)), fun q hq e => ?_, h.far⟩
  rcases hat with ha | ha
  · exact h.ne q (ha ▸ hq) e
  · rw [ha] at hq
    cases hq
    have := (own_blk h.o5 _ e).2
    omega
theorem Wt.app5 (h : Wt w W bh seed zl zk zr z10 b k ow g root n4 n5 is ls vs A4 c4 A5 c5 A6 n6 c6) {A5' : Option Addr} {c5' : Nat} {ls' : List Nat} {n5' : Nat} (ho : W'.ownsRow w.heap.size 3 1 (.slice A5' n5' c5') n5' (nums (ns ls'))) (hg : W.grownBy W' (Value.slice A5 n5 c5).ownBlock) (hat : (Value.slice A5' n5' c5').ownBlock = (Value.slice A5 n5 c5).ownBlock ∨ (Value.slice A5' n5' c5').ownBlock = some W.heap.size) :
    Wt w (W'.setCell ⟨z10, 6, none⟩ (.slice A5' n5' c5')) bh seed zl zk zr z10 b k ow g root n4 n5' is ls' vs A4 c4 A5' c5' A6 n6 c6 := by
  obtain ⟨f0, f1, f2, f3, f4, f5, f6, f7⟩ := h.far
  have hk : Kp (fun q => (Value.slice A5 n5 c5).ownBlock = some q) W W' := Kp.of_grown hg (fun q hq => .inl hq)
  have t1 : ∀ {z t : Nat} {cur : Array Value} {y : Nat × Nat}, W.heap[z]? = some (.cells cur t y) → 3 ≠ t → ¬ (Value.slice A5 n5 c5).ownBlock = some z := fun hz ht e => own_ne h.o5 hz ht _ e rfl
  have b1 : ¬ (Value.slice A5 n5 c5).ownBlock = some bh := fun e => by have := (own_blk h.o5 _ e).1; omega
  have hk2 : Kp (fun q => q = z10) W' (W'.setCell ⟨z10, 6, none⟩ (.slice A5' n5' c5')) := Kp.one W' z10 6 _
  have n6' : ∀ q, (Value.slice A6 n6 c6).ownBlock = some q → ¬ (Value.slice A5 n5 c5).ownBlock = some q := fun q hq e => by
    obtain ⟨cur, hcur⟩ := own_type h.o5 q e
    exact own_ne h.o6 hcur (by decide) q hq rfl
  have nz : ∀ {v : Value} {e n sz : Nat} {xs : List Value}, W'.ownsRow w.heap.size e sz v n xs → e ≠ 169 → ∀ q, v.ownBlock = some q → ¬ q = z10 := fun ho he q hq => own_ne ho (h.wy.kp hk (t1 h.wy (by decide))) he q hq
  have o4' := hk.own h.o4 (fun q hq e => h.ne q hq e)
  have o6' := hk.own h.o6 n6'
  refine ⟨(h.kp.trans hk (fun q e => .inr (own_blk h.o5 q e).1)).trans hk2 (fun q e => .inr (by omega)), (h.hh.kp hk b1).kp hk2 (by omega), (h.lb.kp hk (t1 h.lb (by decide))).kp hk2 f5, (h.kb.kp hk (t1 h.kb (by decide))).kp hk2 f6, (h.rb.kp hk (t1 h.rb (by decide))).kp hk2 f7, (h.wy.kp hk (t1 h.wy (by decide))).set6 A5' n5' c5', hk2.own o4' (nz o4' (by decide)), hk2.own ho (nz ho (by decide)), hk2.own o6' (nz o6' (by decide)), fun q hq e => ?_, h.far⟩
  rcases hat with ha | ha
  · exact h.ne q hq (ha ▸ e)
  · rw [ha] at e
    cases e
    have := (own_blk h.o4 _ hq).2
    omega
theorem Wt.set7 (h : Wt w W bh seed zl zk zr z10 b k ow g root n4 n5 is ls vs A4 c4 A5 c5 A6 n6 c6) {A6' : Option Addr} {n6' c6' : Nat} {vs' : List V3} (ho : W.ownsRow w.heap.size 36 3 (.slice A6' n6' c6') n6' (vs'.flatMap cells3)) :
    Wt w (W.setCell ⟨z10, 7, none⟩ (.slice A6' n6' c6')) bh seed zl zk zr z10 b k ow g root n4 n5 is ls vs' A4 c4 A5 c5 A6' n6' c6' := by
  obtain ⟨f0, f1, f2, f3, f4, f5, f6, f7⟩ := h.far
  have hk2 : Kp (fun q => q = z10) W (W.setCell ⟨z10, 7, none⟩ (.slice A6' n6' c6')) := Kp.one W z10 7 _
  have nz : ∀ {v : Value} {e n sz : Nat} {xs : List Value}, W.ownsRow w.heap.size e sz v n xs → e ≠ 169 → ∀ q, v.ownBlock = some q → ¬ q = z10 := fun ho he q hq => own_ne ho h.wy he q hq
  exact ⟨h.kp.trans hk2 (fun q e => .inr (by omega)), h.hh.kp hk2 (by omega), h.lb.kp hk2 f5, h.kb.kp hk2 f6, h.rb.kp hk2 f7, h.wy.set7 A6' n6' c6', hk2.own h.o4 (nz h.o4 (by decide)), hk2.own h.o5 (nz h.o5 (by decide)), hk2.own ho (nz ho (by decide)), h.ne, h.far⟩
end
section
variable {b most : Nat} {M : Cells} {F : Nat → Prop}
set_option maxHeartbeats 6000000 in
theorem vwayTo (bh seed N root : Nat) (k : Ky) (ow : Int) (l : List Pr) (hs : Ky → Nat) (w : World) (h : Ar w b most M F) (hh : Hs w bh seed) (nbh : ¬ F bh) (hkb : 0 ≤ k.1 ∧ k.1 ≤ 255 ∧ 17 + k.2.2.size ≤ 140737488355328) (hhs : hs k = hashN seed k.1 k.2.1 k.2.2) (hT : HT M hs 0 root l) (hl : l.length ≤ 4096) :
    Calls Tryz.prog 95 #[land b bh, .agg #[.int .i64 (N : Nat), .int .i64 (root : Nat)], xagg k, .int .u32 ow] w fun e w' => ∃ (x : Wv) (cl : List (Nat × Nat)) (lf : List Pr), e = .returned (wagg x) ∧ Wy M hs (hs k) 0 root l cl lf ∧ WayR w w' bh seed b (hs k) root ow k x cl lf := by
  obtain ⟨g, hg⟩ : ∃ g, g = hs k := ⟨_, rfl⟩
  obtain ⟨cl, lf, hW⟩ := Wy.of_ht g hT
  have HOF := Lib.hid (fun (W : World) (h1 : Hs W bh seed) => hof bh seed k.1 k.2.1 k.2.2 W h1 hkb.1 hkb.2.1 hkb.2.2)
  rw [← hhs, ← hg] at HOF
  have HLK := Lib.hid (vlacks b bh)
  obtain ⟨WS, hWS⟩ : ∃ WS, WS = (((((w.alloc (.cells #[ap b, .pointer (some ⟨bh, 0, none⟩)] 26)).alloc (.cells #[.int .i64 (N : Int), .int .i64 (root : Int)] 30)).alloc (.cells #[.int .u8 k.1, .int .i64 k.2.1, .string k.2.2] 36)).alloc (.cells #[.pointer none, .pointer none, .int .u32 0, .int .u64 0, .int .i64 0, .slice none 0 0, .slice none 0 0, .slice none 0 0, .int .i64 0, .bool false] 169)).alloc (.cells #[ap b, .pointer (some ⟨bh, 0, none⟩), .int .u32 ow, .int .u64 0, .int .i64 0, .slice none 0 0, .slice none 0 0, .slice none 0 0, .int .i64 0, .bool false] 169)) := ⟨_, rfl⟩
  have hsz : WS.heap.size = w.heap.size + 1 + 1 + 1 + 1 + 1 := by rw [hWS]; simp
  have hb0 : Below w.heap.size w WS := by rw [hWS]; exact (((((Below.refl _ w).alloc (Nat.le_refl _) _).alloc (by simp) _).alloc (by simp; omega) _).alloc (by simp; omega) _).alloc (by simp; omega) _
  have q1 : C2 WS w.heap.size 26 (ap b) (.pointer (some ⟨bh, 0, none⟩)) := by rw [hWS]; exact ((((C2.new w 26 (ap b) (.pointer (some ⟨bh, 0, none⟩))).alloc _).alloc _).alloc _).alloc _
  have q2 : C2 WS (w.heap.size + 1) 30 (.int .i64 (N : Int)) (.int .i64 (root : Int)) := by
    have h := (((C2.new (w.alloc (.cells #[ap b, .pointer (some ⟨bh, 0, none⟩)] 26)) 30 (.int .i64 (N : Int)) (.int .i64 (root : Int))).alloc (.cells #[.int .u8 k.1, .int .i64 k.2.1, .string k.2.2] 36)).alloc (.cells #[.pointer none, .pointer none, .int .u32 0, .int .u64 0, .int .i64 0, .slice none 0 0, .slice none 0 0, .slice none 0 0, .int .i64 0, .bool false] 169)).alloc (.cells #[ap b, .pointer (some ⟨bh, 0, none⟩), .int .u32 ow, .int .u64 0, .int .i64 0, .slice none 0 0, .slice none 0 0, .slice none 0 0, .int .i64 0, .bool false] 169)
    rw [hWS]
    simpa using h
  have q3 : C3 WS (w.heap.size + 1 + 1) 36 (.int .u8 k.1) (.int .i64 k.2.1) (.string k.2.2) := by
    have h := ((C3.new ((w.alloc (.cells #[ap b, .pointer (some ⟨bh, 0, none⟩)] 26)).alloc (.cells #[.int .i64 (N : Int), .int .i64 (root : Int)] 30)) 36 (.int .u8 k.1) (.int .i64 k.2.1) (.string k.2.2)).alloc (.cells #[.pointer none, .pointer none, .int .u32 0, .int .u64 0, .int .i64 0, .slice none 0 0, .slice none 0 0, .slice none 0 0, .int .i64 0, .bool false] 169)).alloc (.cells #[ap b, .pointer (some ⟨bh, 0, none⟩), .int .u32 ow, .int .u64 0, .int .i64 0, .slice none 0 0, .slice none 0 0, .slice none 0 0, .int .i64 0, .bool false] 169)
    rw [hWS]
    simpa using h
  have q4 : ZW WS (w.heap.size + 1 + 1 + 1) := by
    have h := heap_alloc_new (((w.alloc (.cells #[ap b, .pointer (some ⟨bh, 0, none⟩)] 26)).alloc (.cells #[.int .i64 (N : Int), .int .i64 (root : Int)] 30)).alloc (.cells #[.int .u8 k.1, .int .i64 k.2.1, .string k.2.2] 36)) (.cells #[.pointer none, .pointer none, .int .u32 0, .int .u64 0, .int .i64 0, .slice none 0 0, .slice none 0 0, .slice none 0 0, .int .i64 0, .bool false] 169)
    have h2 := (Below.heap_alloc _ (.cells #[ap b, .pointer (some ⟨bh, 0, none⟩), .int .u32 ow, .int .u64 0, .int .i64 0, .slice none 0 0, .slice none 0 0, .slice none 0 0, .int .i64 0, .bool false] 169) _ (Array.getElem?_eq_some_iff.1 h).1).trans h
    rw [hWS]
    simpa [ZW] using h2
  have HW0 := Lib.hid hWS
  have SZ := Lib.hid hsz
  have HHS := Lib.hid (hh.below hb0)
  have HB0 := Lib.hid hb0
  have HA := Lib.hid h
  have hbl := hh.lt
  have QQ := Lib.hid (And.intro (Q6S.mk q1 q2 q3) q4)
  have x0 := q1.c0
  have x1 := q1.c1
  obtain ⟨zl, hzl⟩ : ∃ zl, zl = w.heap.size := ⟨_, rfl⟩
  obtain ⟨zm, hzm⟩ : ∃ zm, zm = w.heap.size + 1 := ⟨_, rfl⟩
  obtain ⟨zk, hzk⟩ : ∃ zk, zk = w.heap.size + 1 + 1 := ⟨_, rfl⟩
  obtain ⟨zr, hzr⟩ : ∃ zr, zr = w.heap.size + 1 + 1 + 1 := ⟨_, rfl⟩
  obtain ⟨zn, hzn⟩ : ∃ zn, zn = w.heap.size + 1 + 1 + 1 + 1 := ⟨_, rfl⟩
  have ZL := Lib.hid (show bh < w.heap.size ∧ zl = w.heap.size ∧ zm = w.heap.size + 1 ∧ zk = w.heap.size + 2 ∧ zr = w.heap.size + 3 ∧ zn = w.heap.size + 4 from ⟨hbl, hzl, hzm, hzk, hzr, hzn⟩)
  have HZZ := Lib.hid (And.intro hzl (And.intro hzm (And.intro hzk (And.intro hzr hzn))))
  have HWY := Lib.hid hW
  have NBH := Lib.hid nbh
  have HG := Lib.hid hg
  have HLL := Lib.hid (show lf.length ≤ 4096 from Nat.le_trans hW.sublist.length_le hl)
  clear h hh nbh hkb hhs hT hl hg hW hWS hsz hb0 q1 q2 q3 q4 hbl hzl hzm hzk hzr hzn
  go_enter Tryz.func95, Tryz.ntmps95
  go_upto_region 2 with fail
  rw [← HW0.out]
  clear HW0
  go_wp2_with fail
  refine (HLK.out _).mono ?_
  rintro e w1 ⟨rfl, hb1⟩
  have QQ1 := Lib.hid (And.intro (QQ.out.1.kp (Kp.of_below hb1 (fun _ => False)) ⟨id, id, id⟩) (QQ.out.2.kp (Kp.of_below hb1 (fun _ => False)) id))
  have HHS1 := Lib.hid (HHS.out.below hb1)
  have HB1 := Lib.hid (HB0.out.trans (hb1.mono HB0.out.size))
  have S1 := Lib.hid hb1.size
  clear hb1 x0 x1 HLK
  go_upto_region 4 with fail
  obtain ⟨e1, e2, e3, e4, e5⟩ := HZZ.out
  rw [← e4, ← e3, ← e2, ← e1] at QQ1
  rw [← e5, ← e4, ← e3, ← e2, ← e1]
  clear e1 e2 e3 e4 e5
  go_cut [10] from 21 to 29 (fun s10 wc => ∃ z10, s10 = .pointer (some ⟨z10, 0, none⟩) ∧ w.heap.size + 5 ≤ z10 ∧ WC wc z10 ⟨b, bh, ow, g, root, none, 0, 0, none, 0, 0, none, 0, 0, 0, false⟩ ∧ Q6S wc zl zm zk b bh N root k ∧ Hs wc bh seed ∧ Kp (fun q => q = bh) w1 wc)
  case first =>
    have l0 : ∀ W', Q6S W' zl zm zk b bh N root k → W'.cell? ⟨zl, 0, none⟩ = some (ap b) := fun W' h => h.lb.c0
    have l1 : ∀ W', Q6S W' zl zm zk b bh N root k → W'.cell? ⟨zl, 1, none⟩ = some (.pointer (some ⟨bh, 0, none⟩)) := fun W' h => h.lb.c1
    have mm1 : ∀ W', Q6S W' zl zm zk b bh N root k → W'.cell? ⟨zm, 1, none⟩ = some (.int .i64 (root : Int)) := fun W' h => h.mb.c1
    have k0 : ∀ W', Q6S W' zl zm zk b bh N root k → W'.cell? ⟨zk, 0, none⟩ = some (.int .u8 k.1) := fun W' h => h.kb.c0
    have k1 : ∀ W', Q6S W' zl zm zk b bh N root k → W'.cell? ⟨zk, 1, none⟩ = some (.int .i64 k.2.1) := fun W' h => h.kb.c1
    have k2 : ∀ W', Q6S W' zl zm zk b bh N root k → W'.cell? ⟨zk, 2, none⟩ = some (.string k.2.2) := fun W' h => h.kb.c2
    have ZS := Lib.hid (show w.heap.size + 5 ≤ w1.heap.size from by have h1 := SZ.out; have h2 := S1.out; omega)
    have WSS := Lib.hid (show w1.heap.size ≤ w1.heap.size from Nat.le_refl _)
    have hSS : Q6S w1.drew zl zm zk b bh N root k := QQ1.out.1.kp (Kp.of_below (Below.refl _ w1).drew (fun _ => False)) ⟨id, id, id⟩
    refine wp_region_noPanic ?_
    refine wp_region_held_drew (S := fun W' => Q6S W' zl zm zk b bh N root k) (by kernel_rfl) hSS (fun hH => ?_)
    have hS0 := hH
    have hHS0 : Hs w1.drew bh seed := HHS1.out.kp (Kp.of_below (Below.refl _ w1).drew (fun _ => False)) id
    have hKP0 : Kp (fun q => q = bh) w1 w1.drew := (Kp.refl _ w1).drew
    clear hSS
    generalize w1.drew = W0 at hH hS0 hHS0 hKP0 ⊢
    refine tkH ?_ 0 hH ?_ ?_; rotate_left
    · intro W' hS; go_simp; with_reducible rfl
    simp only [tkr]
    refine tkH ?_ 1 hH ?_ ?_; rotate_left
    · intro W' hS; go_simp; with_reducible rfl
    simp only [tkr]
    refine tkH ?_ 2 hH ?_ ?_; rotate_left
    · intro W' hS; go_simp; with_reducible rfl
    simp only [tkr]
    refine tkH ?_ 3 hH ?_ ?_; rotate_left
    · intro W' hS; go_simp; with_reducible rfl
    simp only [tkr]
    refine tkH ?_ 4 hH ?_ ?_; rotate_left
    · intro W' hS; go_simp; with_reducible rfl
    simp only [tkr]
    refine tkH ?_ 6 hH ?_ ?_; rotate_left
    · intro W' hS; go_simp; with_reducible rfl
    simp only [tkr]
    refine tkH ?_ 7 hH ?_ ?_; rotate_left
    · intro W' hS; go_simp; with_reducible rfl
    simp only [tkr]
    refine wpAnyH_ready (rs := [5, 9]) (by kernel_rfl) (by simp) ?_
    refine AllReadyH.cons rfl (fun K hK => ?_) (AllReadyH.cons rfl (fun K hK => ?_) AllReadyH.nil)
    · go_simp
      refine (HOF.out W0 hHS0).mono ?_
      rintro e W1 ⟨rfl, hHS1, hgr⟩
      have hk1 : Kp (fun q => q = bh) W0 W1 := Kp.of_grown hgr (fun q hq => .inl (by cases hq; rfl))
      have hS1 := hS0.kp hk1 (by have := ZL.out; omega)
      have hKP1 := hKP0.trans hk1 (fun q h => .inl h)
      clear hgr
      simp only
      refine hK.out _ _ ?_ (fun hH => ?_)
      · exact hS1
      clear hK K
      refine tkH ?_ 8 hH ?_ ?_; rotate_left
      · intro W' hS; go_simp; with_reducible rfl
      simp only [tkr]
      refine rdH 9 rfl (fun K hK => ?_)
      go_simp
      have hS2 := hS1.kp ((Kp.refl (fun _ => False) W1).alloc (.cells #[.pointer none, .pointer none, .int .u32 0, .int .u64 0, .int .i64 0, .slice none 0 0, .slice none 0 0, .slice none 0 0, .int .i64 0, .bool false] 169)) ⟨id, id, id⟩
      have hHS2 := hHS1.alloc (.cells #[.pointer none, .pointer none, .int .u32 0, .int .u64 0, .int .i64 0, .slice none 0 0, .slice none 0 0, .slice none 0 0, .int .i64 0, .bool false] 169)
      have hKP2 := hKP1.alloc (.cells #[.pointer none, .pointer none, .int .u32 0, .int .u64 0, .int .i64 0, .slice none 0 0, .slice none 0 0, .slice none 0 0, .int .i64 0, .bool false] 169)
      have hZ2 : ZW (W1.alloc (.cells #[.pointer none, .pointer none, .int .u32 0, .int .u64 0, .int .i64 0, .slice none 0 0, .slice none 0 0, .slice none 0 0, .int .i64 0, .bool false] 169)) W1.heap.size := heap_alloc_new W1 _
      have hN2 : w1.heap.size ≤ W1.heap.size := hKP1.size
      refine hK.out _ _ ?_ (fun hH => ?_)
      · exact hS2
      clear hK K hH
      generalize W1.alloc (.cells #[.pointer none, .pointer none, .int .u32 0, .int .u64 0, .int .i64 0, .slice none 0 0, .slice none 0 0, .slice none 0 0, .int .i64 0, .bool false] 169) = W2 at hS2 hHS2 hKP2 hZ2 ⊢
      generalize W1.heap.size = b2 at hZ2 hN2 ⊢
      refine rdH 10 rfl (fun K hK => ?_)
      obtain ⟨c0, c1, c2, c3, c4, c5, c6, c7, c8, c9⟩ := hZ2.all
      obtain ⟨f0, f1, f2, f3, f4, f5, f6, f7, f8, f9⟩ := hZ2.fzs
      go_simp
      clear c0 c1 c2 c3 c4 c5 c6 c7 c8 c9 f0 f1 f2 f3 f4 f5 f6 f7 f8 f9
      have hP := hZ2.put ⟨b, bh, ow, g, root, none, 0, 0, none, 0, 0, none, 0, 0, 0, false⟩
      have fin : ∀ W9, Kp (fun q => q = b2) W2 W9 → Q6S W9 zl zm zk b bh N root k ∧ Hs W9 bh seed ∧ Kp (fun q => q = bh) w1 W9 := fun W9 h9 => by
        have h1 := hN2
        have h2 := ZL.out
        have h3 := ZS.out
        exact ⟨hS2.kp h9 (by omega), hHS2.kp h9 (by omega), hKP2.trans h9 (fun q h => .inr (by have := ZS.out; omega))⟩
      refine hK.out _ _ ?_ (fun hH => ?_)
      · refine (fin _ ?_).1
        repeat first
          | with_reducible exact Kp.refl _ _
          | with_reducible refine Kp.setCell ?_ (by simp) _
      clear hK K
      refine wpAnyH_done (by kernel_rfl) ?_ _
      refine NoPanic.normal ?_
      clear l0 l1 mm1 k0 k1 k2
      go_wp2_with fail
      go_meet
      refine ⟨b2, rfl, Nat.le_trans ZS.out hN2, hP, fin _ ?_⟩
      repeat first
        | with_reducible exact Kp.refl _ _
        | with_reducible refine Kp.setCell ?_ (by simp) _
    · go_simp
      have hS3 := hS0.kp ((Kp.refl (fun _ => False) W0).alloc (.cells #[.pointer none, .pointer none, .int .u32 0, .int .u64 0, .int .i64 0, .slice none 0 0, .slice none 0 0, .slice none 0 0, .int .i64 0, .bool false] 169)) ⟨id, id, id⟩
      have hHS3 := hHS0.alloc (.cells #[.pointer none, .pointer none, .int .u32 0, .int .u64 0, .int .i64 0, .slice none 0 0, .slice none 0 0, .slice none 0 0, .int .i64 0, .bool false] 169)
      have hKP3 := hKP0.alloc (.cells #[.pointer none, .pointer none, .int .u32 0, .int .u64 0, .int .i64 0, .slice none 0 0, .slice none 0 0, .slice none 0 0, .int .i64 0, .bool false] 169)
      have hZ3 : ZW (W0.alloc (.cells #[.pointer none, .pointer none, .int .u32 0, .int .u64 0, .int .i64 0, .slice none 0 0, .slice none 0 0, .slice none 0 0, .int .i64 0, .bool false] 169)) W0.heap.size := heap_alloc_new W0 _
      have hN3 : w1.heap.size ≤ W0.heap.size := hKP0.size
      refine hK.out _ _ ?_ (fun hH => ?_)
      · exact hS3
      clear hK K hH
      generalize W0.alloc (.cells #[.pointer none, .pointer none, .int .u32 0, .int .u64 0, .int .i64 0, .slice none 0 0, .slice none 0 0, .slice none 0 0, .int .i64 0, .bool false] 169) = W3 at hS3 hHS3 hKP3 hZ3 ⊢
      generalize W0.heap.size = b3 at hZ3 hN3 ⊢
      refine rdH 5 rfl (fun K hK => ?_)
      go_simp
      refine (HOF.out W3 hHS3).mono ?_
      rintro e W4 ⟨rfl, hHS4, hgr⟩
      have hk4 : Kp (fun q => q = bh) W3 W4 := Kp.of_grown hgr (fun q hq => .inl (by cases hq; rfl))
      have hS4 := hS3.kp hk4 (by have := ZL.out; omega)
      have hKP4 := hKP3.trans hk4 (fun q h => .inl h)
      have hZ4 := hZ3.kp hk4 (by have := ZL.out; have := hN3; have := ZS.out; omega)
      have hN4 := hN3
      clear hgr
      simp only
      refine hK.out _ _ ?_ (fun hH => ?_)
      · exact hS4
      clear hK K
      refine tkH ?_ 8 hH ?_ ?_; rotate_left
      · intro W' hS; go_simp; with_reducible rfl
      simp only [tkr]
      refine rdH 10 rfl (fun K hK => ?_)
      obtain ⟨c0, c1, c2, c3, c4, c5, c6, c7, c8, c9⟩ := hZ4.all
      obtain ⟨f0, f1, f2, f3, f4, f5, f6, f7, f8, f9⟩ := hZ4.fzs
      go_simp
      clear c0 c1 c2 c3 c4 c5 c6 c7 c8 c9 f0 f1 f2 f3 f4 f5 f6 f7 f8 f9
      have hP := hZ4.put ⟨b, bh, ow, g, root, none, 0, 0, none, 0, 0, none, 0, 0, 0, false⟩
      have fin : ∀ W9, Kp (fun q => q = b3) W4 W9 → Q6S W9 zl zm zk b bh N root k ∧ Hs W9 bh seed ∧ Kp (fun q => q = bh) w1 W9 := fun W9 h9 => by
        have h1 := hN4
        have h2 := ZL.out
        have h3 := ZS.out
        exact ⟨hS4.kp h9 (by omega), hHS4.kp h9 (by omega), hKP4.trans h9 (fun q h => .inr (by have := ZS.out; omega))⟩
      refine hK.out _ _ ?_ (fun hH => ?_)
      · refine (fin _ ?_).1
        repeat first
          | with_reducible exact Kp.refl _ _
          | with_reducible refine Kp.setCell ?_ (by simp) _
      clear hK K
      refine wpAnyH_done (by kernel_rfl) ?_ _
      refine NoPanic.normal ?_
      clear l0 l1 mm1 k0 k1 k2
      go_wp2_with fail
      go_meet
      refine ⟨b3, rfl, Nat.le_trans ZS.out hN4, hP, fin _ ?_⟩
      repeat first
        | with_reducible exact Kp.refl _ _
        | with_reducible refine Kp.setCell ?_ (by simp) _
  case rest =>
    obtain ⟨z10, rfl, hz10, hP, hQ, hH2, hK2⟩ := hcut
    have ZZ := Lib.hid hz10
    have HP := Lib.hid hP
    have HQ := Lib.hid hQ
    have HH2 := Lib.hid hH2
    have HK2 := Lib.hid ((Kp.of_below HB1.out (fun q => q = bh)).trans hK2 (fun q h => .inl h))
    have HR2 := Lib.hid (QQ1.out.2.kp hK2 (by have := ZL.out; omega))
    have mm1 := hQ.mb.c1
    clear hz10 hP hQ hH2 hK2
    have HWT := Lib.hid (Wt.mk HK2.out HH2.out HQ.out.lb HQ.out.kb HR2.out HP.out (World.ownsRow_nil _ _ _ _) (World.ownsRow_nil _ _ _ _) (vs := []) (World.ownsRow_nil _ _ _ _) (fun q hq => by cases hq) (by have := ZL.out; have := ZZ.out; omega) : Wt w wc bh seed zl zk zr z10 b k ow g root 0 0 [] [] [] none 0 none 0 none 0 0)
    obtain ⟨nn, hnn⟩ : ∃ nn, nn = cl.length := ⟨_, rfl⟩
    have HNN := Lib.hid hnn
    clear HK2 HH2 HQ HR2 HP hnn
    go_upto_region 6 with fail
    go_loopg [11, 12] nn (fun c' s11 s12 wr => ∃ (pre post : List (Nat × Nat)) (i lvl : Nat) (lev : Int) (l' : List Pr) (vs : List V3) (A4 : Option Addr) (c4 : Nat) (A5 : Option Addr) (c5 : Nat) (A6 : Option Addr) (n6 c6 : Nat), cl = pre ++ post ∧ post.length = c' ∧ s11 = .int .i64 (i : Int) ∧ s12 = .int .i64 lev ∧ -1 ≤ lev ∧
      (post ≠ [] → lev < lvl ∧ Wy M hs g lvl i l' post lf) ∧ (post = [] → lev = 13 ∧ vs = flatP lf ∧ n6 = vs.length) ∧
      Wt w wr bh seed zl zk zr z10 b k ow g root pre.length pre.length (pre.map Prod.fst) (pre.map Prod.snd) vs A4 c4 A5 c5 A6 n6 c6)
    case atStart =>
      exact ⟨[], cl, root, 0, -1, l, [], none, 0, none, 0, none, 0, 0, rfl, HNN.out.symm, rfl, rfl, by omega, fun _ => ⟨by omega, HWY.out⟩, fun e => absurd e (by
        obtain ⟨_, _, _, rest, _, _, _, _, _, e2, _⟩ := HWY.out.step
        rw [e2]; simp), HWT.out⟩
    case round =>
      obtain ⟨pre, post, i, lvl, lev, l', vs, A4, c4, A5, c5, A6, n6, c6, hcl, hpl, rfl, rfl, hlv1, hpost, hnil, hwt⟩ := hrel
      by_cases hp : post = []
      · obtain ⟨rfl, rfl, hn6⟩ := hnil hp
        obtain ⟨_, _, _, _, hlf, _⟩ := HWY.out.leafF
        obtain ⟨p, hpp⟩ : ∃ p, p = 2 * lowN k lf := ⟨_, rfl⟩
        subst hn6
        have hr6 : Rd wr (.slice A6 (flatP lf).length c6) (flatP lf).length ((flatP lf).flatMap cells3) := Rd.of_own hwt.o6
        have HFI := vfind (.slice A6 (flatP lf).length c6) lf k wr hr6 hlf.so (by have := HLL.out; omega)
        rw [← hpp] at HFI
        replace HFI := Lib.hid HFI
        have HPP := Lib.hid hpp
        obtain ⟨n6, hn6⟩ : ∃ n6, n6 = (flatP lf).length := ⟨_, rfl⟩
        rw [← hn6] at HFI hwt
        have HCL := Lib.hid (And.intro hcl (And.intro hp (And.intro hpl hn6)))
        have WT := Lib.hid hwt
        obtain ⟨m0, m1, m2, m3, m4, m5, m6, m7, m8, m9⟩ := hwt.wy.all
        obtain ⟨k0, k1, k2, _⟩ := hwt.kb.all
        clear hcl hpl hp hpost hnil hlf hr6 hpp hn6 hwt
        go_wp2_with fail
        refine HFI.out.mono ?_
        rintro e w3 ⟨rfl, hb3⟩
        have wt3 := WT.out.below hb3
        have WT3 := Lib.hid wt3
        obtain ⟨m0, m1, m2, m3, m4, m5, m6, m7, m8, m9⟩ := wt3.wy.all
        obtain ⟨f0, f1, f2, f3, f4, f5, f6, f7, f8, f9⟩ := wt3.wy.fzs
        clear hb3 wt3 k0 k1 k2
        go_upto_region 17 with fail
        have far := WT3.out.far
        have wy4 := (WT3.out.wy.set8 p).set9 (hasN k lf)
        have kp4 : Kp (fun q => q = z10) w3 ((w3.setCell ⟨z10, 8, none⟩ (.int .i64 (p : Int))).setCell ⟨z10, 9, none⟩ (.bool (hasN k lf))) := ((Kp.refl (fun q => q = z10) w3).setCell (.inl rfl) _).setCell (.inl rfl) _
        have rb4 := WT3.out.rb.kp kp4 far.2.2.2.2.2.2.2
        clear m0 m1 m2 m3 m4 m5 m6 m7 m8 m9 f0 f1 f2 f3 f4 f5 f6 f7 f8 f9 far
        generalize (w3.setCell ⟨z10, 8, none⟩ (.int .i64 (p : Int))).setCell ⟨z10, 9, none⟩ (.bool (hasN k lf)) = w4 at wy4 kp4 rb4 ⊢
        have KP4 := Lib.hid kp4
        obtain ⟨m0, m1, m2, m3, m4, m5, m6, m7, m8, m9⟩ := wy4.all
        obtain ⟨c0, c1, c2, c3, c4', c5', c6', c7, c8, c9⟩ := rb4.all
        obtain ⟨f0, f1, f2, f3, f4, f5, f6, f7, f8, f9⟩ := rb4.fzs
        clear kp4 wy4 rb4
        simp only at m0 m1 m2 m3 m4 m5 m6 m7 m8 m9
        go_wp2_with fail
        have fin : ∀ W9, Kp (fun q => q = zr) w4 W9 → WayR w W9 bh seed b (hs k) root ow k ⟨b, bh, ow, g, root, A4, pre.length, c4, A5, pre.length, c5, A6, n6, c6, p, hasN k lf⟩ cl lf := fun W9 h9 => by
          obtain ⟨hcl, hp0, _, hn6⟩ := HCL.out
          rw [hp0, List.append_nil] at hcl
          have far := WT3.out.far
          have nz : ∀ {v : Value} {e n sz : Nat} {xs : List Value}, w3.ownsRow w.heap.size e sz v n xs → e ≠ 169 → W9.ownsRow w.heap.size e sz v n xs := fun ho he => by
            have h4 := KP4.out.own ho (fun q hq => own_ne ho WT3.out.wy he q hq)
            have rbk : ZW w4 zr := WT3.out.rb.kp KP4.out far.2.2.2.2.2.2.2
            exact h9.own h4 (fun q hq => own_ne h4 rbk he q hq)
          refine ⟨(WT3.out.kp.trans KP4.out (fun q e => .inr (by omega))).trans h9 (fun q e => .inr (by omega)), ((WT3.out.hh.kp KP4.out (by omega)).kp h9 (by omega)), ⟨rfl, rfl, rfl, HG.out, rfl, HPP.out, rfl⟩, ?_, ?_, nz WT3.out.o6 (by decide), ⟨by rw [hcl], by rw [hcl], hn6⟩⟩
          · rw [hcl]; exact nz WT3.out.o4 (by decide)
          · rw [hcl]; exact nz WT3.out.o5 (by decide)
        refine bodyPost_ret (v := wagg ⟨b, bh, ow, g, root, A4, pre.length, c4, A5, pre.length, c5, A6, n6, c6, p, hasN k lf⟩) (by simp [results, Tryz.results95, go_sem, c0, c1, c2, c3, c4', c5', c6', c7, c8, c9]) rfl ⟨_, cl, lf, rfl, HG.out ▸ HWY.out, fin _ ?_⟩
        repeat first
          | with_reducible exact Kp.refl _ _
          | with_reducible refine Kp.setCell ?_ (by simp) _
      · obtain ⟨hlt, hW1⟩ := hpost hp
        obtain ⟨c, r, bL, rest, hMi, hcb, hle, h13, hsound, hpe, hcase⟩ := hW1.step
        have har : Ar wr b most M F := HA.out.kp hwt.kp (fun x hx hg => NBH.out (hg ▸ hx))
        have HBE := Lib.hid (vbelow bh i lev c r wr har hMi (by rw [hcb]; omega) hsound (by rw [hcb]; omega))
        have hl13 : lev < 13 := by omega
        have HCS := Lib.hid (And.intro hcb (And.intro h13 (And.intro hpe (And.intro hcase (And.intro hcl hpl)))))
        have WT := Lib.hid hwt
        have HLT := Lib.hid (And.intro hlt hle)
        obtain ⟨l0, l1, _⟩ := hwt.lb.all
        clear hpost hnil hlt hW1 hMi hcb hle h13 hsound hpe hcase har hwt hcl hpl hp
        go_wp2_with fail
        refine HBE.out.mono ?_
        rintro e W1 ⟨V, K, rfl, ov, ok, hb1⟩
        obtain ⟨AV, cV, rfl, _⟩ := (Rd.of_own ov).form
        obtain ⟨AK, cK, rfl, _⟩ := (Rd.of_own ok).form
        have wt1 := WT.out.below hb1
        have hsz1 : w.heap.size ≤ wr.heap.size := WT.out.kp.size
        have NK := Lib.hid (show ∀ q, (Value.slice AK c.kids.length cK).ownBlock = some q → ¬ (Value.slice A4 pre.length c4).ownBlock = some q ∧ ¬ (Value.slice A5 pre.length c5).ownBlock = some q from fun q hq => by
          have h1 := (own_blk ok q hq).1
          exact ⟨fun e => by have := (own_blk WT.out.o4 q e).2; omega, fun e => by have := (own_blk WT.out.o5 q e).2; omega⟩)
        have ov1 := own_less ov hsz1
        have ok1 := own_less ok hsz1
        clear l0 l1 hb1
        go_upto_region 8 with fail
        have q13 := C5.new W1 109 (.int .u32 c.owner) (.int .u32 c.a) (.int .u32 c.b) (.slice AV c.vals.length cV) (.slice AK c.kids.length cK)
        have hb2 : Below W1.heap.size W1 (W1.alloc (.cells #[.int .u32 c.owner, .int .u32 c.a, .int .u32 c.b, .slice AV c.vals.length cV, .slice AK c.kids.length cK] 109)) := (Below.refl _ W1).alloc (Nat.le_refl _) _
        have wt2 := wt1.below hb2
        have ov2 := (Kp.of_below hb2 (fun _ => False)).own ov1 (fun _ _ h => h)
        have ok2 := (Kp.of_below hb2 (fun _ => False)).own ok1 (fun _ _ h => h)
        have hz13 : w.heap.size ≤ W1.heap.size := wt1.kp.size
        clear hb2 wt1 ov1 ok1 ov ok
        generalize W1.alloc (.cells #[.int .u32 c.owner, .int .u32 c.a, .int .u32 c.b, .slice AV c.vals.length cV, .slice AK c.kids.length cK] 109) = W2 at q13 wt2 ov2 ok2 ⊢
        generalize W1.heap.size = z13 at q13 hz13 ⊢
        have Q13 := Lib.hid q13
        have WT2 := Lib.hid wt2
        have OV2 := Lib.hid ov2
        have OK2 := Lib.hid ok2
        have HZ13 := Lib.hid hz13
        obtain ⟨x0, x1, x2, x3, x4, _⟩ := q13.all
        obtain ⟨m0, m1, m2, m3, m4, m5, m6, m7, m8, m9⟩ := wt2.wy.all
        have hwr : IntKind.i64.wrap c.b = c.b := by have h1 := HCS.out.1; have h2 := HCS.out.2.1; rw [IntKind.wrap_i64]; omega
        obtain ⟨i1, hi1, hy0, hy1, hy2⟩ := info_parts iinfo
        have HI1 := Lib.hid hi1
        clear q13 wt2 ov2 ok2 hz13 hi1
        have HPL := Lib.hid (show pre.length ≤ 100 from by
          have h1 := HWY.out.cl_len
          have h2 := HCS.out.2.2.2.2.1
          rw [h2, List.length_append] at h1
          omega)
        have WTA := Lib.hid (WT2.out.below ((Below.refl _ W2).alloc (Nat.le_refl _) (.cells #[.int .i64 (i : Int)] 3)))
        have HIS := Lib.hid (show nums (ns (pre.map Prod.fst)) ++ [.int .i64 (i : Int)] = nums (ns ((pre ++ [(i, bL)]).map Prod.fst)) from by
          rw [List.map_append]; unfold nums ns; simp)
        go_upto_region 12 with (at_builtin; refine wpList_append_rd rfl _ _ 107 rfl w.heap.size 3 i1 _ 1 8 Tryz.underlying107 HI1.out hy0 hy1 hy2 rfl (by decide) (.slice A4 pre.length c4) pre.length (nums (ns (pre.map Prod.fst))) rfl WTA.out.o4 _ 1 [.int .i64 (i : Int)] rfl (Rd.one W2 _ _) rfl (by intro u hu; rw [List.mem_singleton] at hu; subst hu; rfl) (by have := HPL.out; unfold maxLen; omega) (by have := HPL.out; omega) WTA.out.kp.size (fun v' w' k1 k2 k3 => ?_); obtain ⟨A4', c4', rfl, _⟩ := (Rd.of_own k1).form; have wm := (WTA.out.wy4 k2).all; obtain ⟨mm0, mm1, mm2, mm3, mm4, mm5, mm6, mm7, mm8, mm9⟩ := wm; have ff := (WTA.out.wy4 k2).fzs; obtain ⟨ff0, ff1, ff2, ff3, ff4, ff5, ff6, ff7, ff8, ff9⟩ := ff)
        rw [HIS.out] at k1
        have wt5 := WTA.out.app4 k1 k2 k3
        have hb5 : Kp (fun q => (Value.slice A4 pre.length c4).ownBlock = some q ∨ q = z10) W2 (w'.setCell ⟨z10, 5, none⟩ (.slice A4' (pre.length + 1) c4')) := ((Kp.refl _ W2).alloc (.cells #[.int .i64 (i : Int)] 3) |>.trans (Kp.of_grown (F := fun q => (Value.slice A4 pre.length c4).ownBlock = some q) k2 (fun q hq => .inl hq)) (fun q h => .inl (.inl h))).setCell (.inl (.inr rfl)) _
        clear mm0 mm1 mm2 mm3 mm4 mm5 mm6 mm7 mm8 mm9 ff0 ff1 ff2 ff3 ff4 ff5 ff6 ff7 ff8 ff9 m0 m1 m2 m3 m4 m5 m6 m7 m8 m9 x0 x1 x2 x3 x4 k1 k2 k3
        generalize w'.setCell ⟨z10, 5, none⟩ (.slice A4' (pre.length + 1) c4') = W5 at wt5 hb5 ⊢
        have c4t : ∀ q, (Value.slice A4 pre.length c4).ownBlock = some q ∨ q = z10 → ¬ q = z13 := fun q h e => by
          subst e
          rcases h with h | h
          · exact own_ne WT2.out.o4 Q13.out (by decide) _ h rfl
          · subst h
            exact ne_types WT2.out.wy Q13.out (by decide) rfl
        have Q5 := Lib.hid (Q13.out.kp hb5 (fun h => c4t _ h rfl))
        have OV5 := Lib.hid (hb5.own OV2.out (fun q hq h => by
          rcases h with h | h
          · obtain ⟨cur, hcur⟩ := own_type WT2.out.o4 q h
            exact own_ne OV2.out hcur (by decide) q hq rfl
          · exact own_ne OV2.out WT2.out.wy (by decide) q hq h))
        have OK5 := Lib.hid (hb5.own OK2.out (fun q hq h => by
          rcases h with h | h
          · exact (NK.out q hq).1 h
          · exact own_ne OK2.out WT2.out.wy (by decide) q hq h))
        have WT5 := Lib.hid wt5
        have WTB := Lib.hid (wt5.below ((Below.refl _ W5).alloc (Nat.le_refl _) (.cells #[.int .i64 c.b] 3)))
        obtain ⟨m0, m1, m2, m3, m4, m5, m6, m7, m8, m9⟩ := wt5.wy.all
        have HLS := Lib.hid (show nums (ns (pre.map Prod.snd)) ++ [.int .i64 c.b] = nums (ns ((pre ++ [(i, bL)]).map Prod.snd)) from by
          rw [List.map_append, HCS.out.1]; unfold nums ns; simp)
        clear wt5 hb5 c4t
        go_upto_region 13 with (at_builtin; refine wpList_append_rd rfl _ _ 107 rfl w.heap.size 3 i1 _ 1 8 Tryz.underlying107 HI1.out hy0 hy1 hy2 rfl (by decide) (.slice A5 pre.length c5) pre.length (nums (ns (pre.map Prod.snd))) rfl WTB.out.o5 _ 1 [.int .i64 c.b] rfl (Rd.one W5 _ _) rfl (by intro u hu; rw [List.mem_singleton] at hu; subst hu; rfl) (by have := HPL.out; unfold maxLen; omega) (by have := HPL.out; omega) WTB.out.kp.size (fun v' w' k1 k2 k3 => ?_); obtain ⟨A5', c5', rfl, _⟩ := (Rd.of_own k1).form; have wm := (WTB.out.wy5 k2).all; obtain ⟨mm0, mm1, mm2, mm3, mm4, mm5, mm6, mm7, mm8, mm9⟩ := wm; have ff := (WTB.out.wy5 k2).fzs; obtain ⟨ff0, ff1, ff2, ff3, ff4, ff5, ff6, ff7, ff8, ff9⟩ := ff)
        rw [HLS.out] at k1
        have wt8 := WTB.out.app5 k1 k2 k3
        have hb8 : Kp (fun q => (Value.slice A5 pre.length c5).ownBlock = some q ∨ q = z10) W5 (w'.setCell ⟨z10, 6, none⟩ (.slice A5' (pre.length + 1) c5')) := ((Kp.refl _ W5).alloc (.cells #[.int .i64 c.b] 3) |>.trans (Kp.of_grown (F := fun q => (Value.slice A5 pre.length c5).ownBlock = some q) k2 (fun q hq => .inl hq)) (fun q h => .inl (.inl h))).setCell (.inl (.inr rfl)) _
        clear mm0 mm1 mm2 mm3 mm4 mm5 mm6 mm7 mm8 mm9 ff0 ff1 ff2 ff3 ff4 ff5 ff6 ff7 ff8 ff9 m0 m1 m2 m3 m4 m5 m6 m7 m8 m9 k1 k2 k3
        generalize w'.setCell ⟨z10, 6, none⟩ (.slice A5' (pre.length + 1) c5') = W8 at wt8 hb8 ⊢
        have c8t : ∀ q, (Value.slice A5 pre.length c5).ownBlock = some q ∨ q = z10 → ¬ q = z13 := fun q h e => by
          subst e
          rcases h with h | h
          · exact own_ne WT5.out.o5 Q5.out (by decide) _ h rfl
          · subst h
            exact ne_types WT5.out.wy Q5.out (by decide) rfl
        have Q8 := Lib.hid (Q5.out.kp hb8 (fun h => c8t _ h rfl))
        have OV8 := Lib.hid (hb8.own OV5.out (fun q hq h => by
          rcases h with h | h
          · obtain ⟨cur, hcur⟩ := own_type WT5.out.o5 q h
            exact own_ne OV5.out hcur (by decide) q hq rfl
          · exact own_ne OV5.out WT5.out.wy (by decide) q hq h))
        have OK8 := Lib.hid (hb8.own OK5.out (fun q hq h => by
          rcases h with h | h
          · exact (NK.out q hq).2 h
          · exact own_ne OK5.out WT5.out.wy (by decide) q hq h))
        have WT8 := Lib.hid wt8
        clear wt8 hb8 c8t hwr
        have hpl1 : (pre ++ [(i, bL)]).length = pre.length + 1 := by simp
        obtain ⟨hcb, h13, hpe, hcase, hcl, hpl⟩ := HCS.out
        have hcl2 : cl = (pre ++ [(i, bL)]) ++ rest := by rw [hcl, hpe]; simp
        have hrl : rest.length + 1 = post.length := by rw [hpe]; simp
        rcases hcase with ⟨hb13, hre, hvals⟩ | ⟨hb13, s, i', l'', hca, hs32, hki, hwy'⟩
        · have hx13 : c.b = 13 := by rw [hcb, hb13]; rfl
          obtain ⟨x0, x1, x2, x3, x4, _⟩ := Q8.out.all
          obtain ⟨m0, m1, m2, m3, m4, m5, m6, m7, m8, m9⟩ := WT8.out.wy.all
          obtain ⟨f0, f1, f2, f3, f4, f5, f6, f7, f8, f9⟩ := WT8.out.wy.fzs
          have HRR := Lib.hid (And.intro hcl2 (And.intro hre (And.intro hvals (And.intro hrl (And.intro hpl1 (And.intro hb13 hx13))))))
          have HPLL := Lib.hid hpl
          clear hcl2 hre hvals hrl hpl1 hcb h13 hpe hcl hb13 hpl
          go_wp2_with fail
          go_roundg 0
          case measure =>
            have h1 := HRR.out.2.2.2.1
            have h2 := HPLL.out
            omega
          case rel =>
            obtain ⟨hcl2, hre, hvals, hrl, hpl1, hb13, hx13⟩ := HRR.out
            have hw9 := WT8.out.set7 OV8.out
            rw [← hpl1] at hw9
            exact ⟨pre ++ [(i, bL)], rest, i, 13, c.b, [], c.vals, A4', c4', A5', c5', AV, c.vals.length, cV, hcl2, by rw [hre]; rfl, rfl, by rw [hx13], by omega, fun e => absurd hre e, fun _ => ⟨hx13, hvals, rfl⟩, hw9⟩
        · obtain ⟨m, hm⟩ : ∃ m, m = sdx s g bL := ⟨_, rfl⟩
          rw [← hm] at hki
          obtain ⟨gK, _, e, _, kcell, _⟩ := own_at OK8.out (nsn_at hki)
          simp only [Value.slice.injEq, true_and] at e
          obtain ⟨rfl, rfl⟩ := e
          have HSD := vside c.owner s bL g AV (some ⟨gK, 0, none⟩) c.vals.length cV c.kids.length cK W8.drew hs32 hb13
          rw [← hca, ← hcb, ← hm] at HSD
          replace HSD := Lib.hid HSD
          have hx13 : c.b < 13 := by rw [hcb]; omega
          have hq8 : Q4S W8.drew z10 z13 gK m c.kids.length cK ⟨b, bh, ow, g, root, A4', pre.length + 1, c4', A5', pre.length + 1, c5', A6, n6, c6, 0, false⟩ c.owner c.a c.b (.slice AV c.vals.length cV) i' := ⟨WT8.out.wy, Q8.out, kcell⟩
          have HQ8 := Lib.hid hq8
          have hm3 : (0 : Int) ≤ (m : Int) := by omega
          have hm4 : (m : Int) < (c.kids.length : Int) := by have := (List.getElem?_eq_some_iff.1 hki).1; omega
          have HRR := Lib.hid (And.intro hcl2 (And.intro hrl (And.intro hpl1 (And.intro hcb (And.intro hb13 hwy')))))
          have HPLL := Lib.hid hpl
          obtain ⟨x0, x1, x2, x3, x4, _⟩ := Q8.out.all
          clear hcl2 hrl hpl1 hcb h13 hpe hcl hb13 hwy' hki hca hs32 kcell hq8 hpl hm
          go_upto_region 14 with fail
          clear x0 x1 x2 x3 x4
          have y3 : ∀ W', Q4S W' z10 z13 gK m c.kids.length cK ⟨b, bh, ow, g, root, A4', pre.length + 1, c4', A5', pre.length + 1, c5', A6, n6, c6, 0, false⟩ c.owner c.a c.b (.slice AV c.vals.length cV) i' → W'.cell? ⟨z10, 3, none⟩ = some (.int .u64 g) := fun W' h => h.wy.at rfl
          have kc0 : ∀ W', Q4S W' z10 z13 gK m c.kids.length cK ⟨b, bh, ow, g, root, A4', pre.length + 1, c4', A5', pre.length + 1, c5', A6, n6, c6, 0, false⟩ c.owner c.a c.b (.slice AV c.vals.length cV) i' → W'.cell? ⟨z13, 0, none⟩ = some (.int .u32 c.owner) := fun W' h => h.cc.c0
          have kc1 : ∀ W', Q4S W' z10 z13 gK m c.kids.length cK ⟨b, bh, ow, g, root, A4', pre.length + 1, c4', A5', pre.length + 1, c5', A6, n6, c6, 0, false⟩ c.owner c.a c.b (.slice AV c.vals.length cV) i' → W'.cell? ⟨z13, 1, none⟩ = some (.int .u32 c.a) := fun W' h => h.cc.c1
          have kc2 : ∀ W', Q4S W' z10 z13 gK m c.kids.length cK ⟨b, bh, ow, g, root, A4', pre.length + 1, c4', A5', pre.length + 1, c5', A6, n6, c6, 0, false⟩ c.owner c.a c.b (.slice AV c.vals.length cV) i' → W'.cell? ⟨z13, 2, none⟩ = some (.int .u32 c.b) := fun W' h => h.cc.c2
          have kc3 : ∀ W', Q4S W' z10 z13 gK m c.kids.length cK ⟨b, bh, ow, g, root, A4', pre.length + 1, c4', A5', pre.length + 1, c5', A6, n6, c6, 0, false⟩ c.owner c.a c.b (.slice AV c.vals.length cV) i' → W'.cell? ⟨z13, 3, none⟩ = some (.slice AV c.vals.length cV) := fun W' h => h.cc.c3
          have kc4 : ∀ W', Q4S W' z10 z13 gK m c.kids.length cK ⟨b, bh, ow, g, root, A4', pre.length + 1, c4', A5', pre.length + 1, c5', A6, n6, c6, 0, false⟩ c.owner c.a c.b (.slice AV c.vals.length cV) i' → W'.cell? ⟨z13, 4, none⟩ = some (.slice (some ⟨gK, 0, none⟩) c.kids.length cK) := fun W' h => h.cc.c4
          have kid0 : ∀ W', Q4S W' z10 z13 gK m c.kids.length cK ⟨b, bh, ow, g, root, A4', pre.length + 1, c4', A5', pre.length + 1, c5', A6, n6, c6, 0, false⟩ c.owner c.a c.b (.slice AV c.vals.length cV) i' → W'.cell? ⟨gK, m, none⟩ = some (.int .i64 (i' : Int)) := fun W' h => h.kid
          refine wp_region_noPanic ?_
          refine wp_region_held_drew (S := fun W' => Q4S W' z10 z13 gK m c.kids.length cK ⟨b, bh, ow, g, root, A4', pre.length + 1, c4', A5', pre.length + 1, c5', A6, n6, c6, 0, false⟩ c.owner c.a c.b (.slice AV c.vals.length cV) i') (by kernel_rfl) HQ8.out (fun hH => ?_)
          refine tkH ?_ 0 hH ?_ ?_; rotate_left
          · intro W' hS; go_simp; with_reducible rfl
          simp only [tkr]
          refine tkH ?_ 1 hH ?_ ?_; rotate_left
          · intro W' hS; go_simp; with_reducible rfl
          simp only [tkr]
          refine tkH ?_ 2 hH ?_ ?_; rotate_left
          · intro W' hS; go_simp; with_reducible rfl
          simp only [tkr]
          refine tkH ?_ 3 hH ?_ ?_; rotate_left
          · intro W' hS; go_simp; with_reducible rfl
          simp only [tkr]
          refine tkH ?_ 4 hH ?_ ?_; rotate_left
          · intro W' hS; go_simp; with_reducible rfl
          simp only [tkr]
          refine rdH 5 rfl (fun K hK => ?_)
          go_simp
          refine HSD.out.mono ?_
          rintro e W9 ⟨rfl, hb9⟩
          have hq9 : Q4S W9 z10 z13 gK m c.kids.length cK ⟨b, bh, ow, g, root, A4', pre.length + 1, c4', A5', pre.length + 1, c5', A6, n6, c6, 0, false⟩ c.owner c.a c.b (.slice AV c.vals.length cV) i' := ⟨hH.wy.below hb9, hH.cc.below hb9, (Kp.of_below hb9 (fun _ => False)).cell hH.kid id⟩
          have HB9 := Lib.hid (show Below W8.heap.size W8 W9 from (Below.refl _ W8).drew.trans hb9)
          have HQ9 := Lib.hid hq9
          clear hb9 hq9 hH
          simp only
          refine hK.out _ _ ?_ (fun hH => ?_)
          · exact HQ9.out
          clear hK K
          refine tkH ?_ 6 hH ?_ ?_; rotate_left
          · intro W' hS; go_simp; with_reducible rfl
          simp only [tkr]
          refine tkH ?_ 7 hH ?_ ?_; rotate_left
          · intro W' hS; go_simp; with_reducible rfl
          simp only [tkr]
          refine tkH ?_ 8 hH ?_ ?_; rotate_left
          · intro W' hS; go_simp; with_reducible rfl
          simp only [tkr]
          refine wpAnyH_done (by kernel_rfl) ?_ _
          refine NoPanic.normal ?_
          clear y3 kc0 kc1 kc2 kc3 kc4 kid0 hm3 hm4
          have wt9 := WT8.out.below HB9.out
          have ov9 := (Kp.of_below HB9.out (fun _ => False)).own OV8.out (fun _ _ h => h)
          obtain ⟨x0, x1, x2, x3, x4, _⟩ := HQ9.out.cc.all
          obtain ⟨m0, m1, m2, m3, m4, m5, m6, m7, m8, m9⟩ := wt9.wy.all
          obtain ⟨f0, f1, f2, f3, f4, f5, f6, f7, f8, f9⟩ := wt9.wy.fzs
          have WT9 := Lib.hid wt9
          have OV9 := Lib.hid ov9
          clear wt9 ov9
          go_wp2_with fail
          go_roundg rest.length
          case measure =>
            have h1 := HRR.out.2.1
            have h2 := HPLL.out
            omega
          case rel =>
            obtain ⟨hcl2, hrl, hpl1, hcb, hb13, hwy'⟩ := HRR.out
            have hw9 := WT9.out.set7 OV9.out
            rw [← hpl1] at hw9
            exact ⟨pre ++ [(i, bL)], rest, i', bL + 1, c.b, l'', c.vals, A4', c4', A5', c5', AV, c.vals.length, cV, hcl2, rfl, rfl, rfl, by omega, fun _ => ⟨by omega, hwy'⟩, fun e => (by
              obtain ⟨_, _, _, _, _, _, _, _, _, e2, _⟩ := hwy'.step
              rw [e2] at e
              cases e), hw9⟩
end

end Go.Proofs.YtdddhmipifkepaaGreat

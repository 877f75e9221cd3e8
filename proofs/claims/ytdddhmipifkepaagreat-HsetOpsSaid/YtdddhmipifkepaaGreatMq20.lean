/- Several texts in one. -/
import Derived.Test.YtdddhmipifkepaaGreatMq19
import Derived.Test.YtdddhmipifkepaaGreatMq11
set_option linter.unusedSimpArgs false
namespace Go.Proofs.YtdddhmipifkepaaGreat
set_option maxRecDepth 100000
open Go.RowKit
section
variable {b most : Nat} {M : Cells} {F : Nat → Prop}
set_option maxHeartbeats 3000000 in
theorem vwayToE (bh seed N root : Nat) (k : Ky) (ow : Int) (w : World) (h : Ar w b most M F) (hh : Hs w bh seed) (nbh : ¬ F bh) (hkb : OkK k) (hM : M root = none) :
    Calls Tryz.prog 95 #[land b bh, .agg #[.int .i64 (N : Nat), .int .i64 (root : Nat)], xagg k, .int .u32 ow] w fun e w' => e = .returned (wagg (zway b bh ow)) ∧ Kp (fun q => q = bh) w w' ∧ Hs w' bh seed := by
  obtain ⟨g, hg⟩ : ∃ g, g = hashN seed k.1 k.2.1 k.2.2 := ⟨_, rfl⟩
  have HOF := Lib.hid (fun (W : World) (h1 : Hs W bh seed) => hof bh seed k.1 k.2.1 k.2.2 W h1 hkb.1 hkb.2.1 hkb.2.2)
  rw [← hg] at HOF
  have HLK := Lib.hid (vlacks b bh)
  obtain ⟨WS, hWS⟩ : ∃ WS, WS = (((((w.alloc (.cells #[ap b, .pointer (some ⟨bh, 0, none⟩)] 26)).alloc (.cells #[.int .i64 (N : Int), .int .i64 (root : Int)] 30)).alloc (.cells #[.int .u8 k.1, .int .i64 k.2.1, .string k.2.2] 36)).alloc (.cells #[.pointer none, .pointer none, .int .u32 0, .int .u64 0, .int .i64 0, .slice none 0 0, .slice none 0 0, .slice none 0 0, .int .i64 0, .bool false] 169)).alloc (.cells #[ap b, .pointer (some ⟨bh, 0, none⟩), .int .u32 ow, .int .u64 0, .int .i64 0, .slice none 0 0, .slice none 0 0, .slice none 0 0, .int .i64 0, .bool false] 169)) := ⟨_, rfl⟩
  have hsz : WS.heap.size = w.heap.size + 1 + 1 + 1 + 1 + 1 := by rw [hWS]; simp
  have hb0 : Below w.heap.size w WS := by rw [hWS]; exact (((((Below.refl _ w).alloc (Nat.le_refl _) _).alloc (by simp) _).alloc (by simp; omega) _).alloc (by simp; omega) _).alloc (by simp; omega) _
  have q1 : C2 WS w.heap.size 26 (ap b) (.pointer (some ⟨bh, 0, none⟩)) := by rw [hWS]; exact ((((C2.new w 26 (ap b) (.pointer (some ⟨bh, 0, none⟩))).alloc _).alloc _).alloc _).alloc _
  have q2 : C2 WS (w.heap.size + 1) 30 (.int .i64 (N : Int)) (.int .i64 (root : Int)) := by
    have h := (((C2.new (w.alloc (.cells #[ap b, .pointer (some ⟨bh, 0, none⟩)] 26)) 30 (.int .i64 (N : Int)) (.int .i64 (root : Int))).alloc (.cells #[.int .u8 k.1, .int .i64 k.2.1, .string k.2.2] 36)).alloc (.cells #[.pointer none, .pointer none, .int .u32 0, .int .u64 0, .int .i64 0, .slice none 0 0, .slice none 0 0, .slice none 0 0, .int .i64 0, .bool false] 169)).alloc (.cells #[ap b, .pointer (some ⟨bh, 0, none⟩), .int .u32 ow, .int .u64 0, .int .i64 0, .slice none 0 0, .slice none 0 0, .slice none 0 0, .int .i64 0, .bool false] 169)
    rw [hWS]
    simpa using h
  have q3 : C3 WS (w.heap.size + 1 + 1) 36 (.int .u8 k.1) (.int .i64 k.2.1) (.string k.2.2) := by
    have h := ((C3.new ((w.alloc (.cells #[ap b, .pointer (some ⟨bh, 0, none⟩)] 26)).alloc (.cells #[.int .i64 (N : Int), .int .i64 (root : Int)] 30)) 36 (.int .u8 k.1) (.int .i64 k.2.1) (.string k.2.2)).alloc (.cells #[.pointer none, .pointer none, .int .u32 0, .int .u64 0, .int .i64 0, .slice none 0 0, .slice none 0 0, .slice none 0 0, .int .i64 0, .bool false] 169)).alloc (.cells #[ap b, .pointer (some ⟨bh, 0, none⟩), .int .u32 ow, .int .u64 0, .int .i64 0, .slice none 0 0, .slice none 0 0, .slice none 0 0, .int .i64 0, .bool false] 169)
    rw [hWS]
    simpa using h
  have q4 : ZW WS (w.heap.size + 1 + 1 + 1) := by
    have h := heap_alloc_new (((w.alloc (.cells #[ap b, .pointer (some ⟨bh, 0, none⟩)] 26)).alloc (.cells #[.int .i64 (N : Int), .int .i64 (root : Int)] 30)).alloc (.cells #[.int .u8 k.1, .int .i64 k.2.1, .string k.2.2] 36)) (.cells #[.pointer none, .pointer none, .int .u32 0, .int .u64 0, .int .i64 0, .slice none 0 0, .slice none 0 0, .slice none 0 0, .int .i64 0, .bool false] 169)
    have h2 := (Below.heap_alloc _ (.cells #[ap b, .pointer (some ⟨bh, 0, none⟩), .int .u32 ow, .int .u64 0, .int .i64 0, .slice none 0 0, .slice none 0 0, .slice none 0 0, .int .i64 0, .bool false] 169) _ (Array.getElem?_eq_some_iff.1 h).1).trans h
    rw [hWS]
    simpa [ZW] using h2
  have q5 : WC WS (w.heap.size + 1 + 1 + 1 + 1) (zway b bh ow) := by
    have h := heap_alloc_new ((((w.alloc (.cells #[ap b, .pointer (some ⟨bh, 0, none⟩)] 26)).alloc (.cells #[.int .i64 (N : Int), .int .i64 (root : Int)] 30)).alloc (.cells #[.int .u8 k.1, .int .i64 k.2.1, .string k.2.2] 36)).alloc (.cells #[.pointer none, .pointer none, .int .u32 0, .int .u64 0, .int .i64 0, .slice none 0 0, .slice none 0 0, .slice none 0 0, .int .i64 0, .bool false] 169)) (.cells #[ap b, .pointer (some ⟨bh, 0, none⟩), .int .u32 ow, .int .u64 0, .int .i64 0, .slice none 0 0, .slice none 0 0, .slice none 0 0, .int .i64 0, .bool false] 169)
    rw [hWS]
    simpa [WC, wcells] using h
  have HW0 := Lib.hid hWS
  have SZ := Lib.hid hsz
  have HHS := Lib.hid (hh.below hb0)
  have HB0 := Lib.hid hb0
  have HA := Lib.hid h
  have hbl := hh.lt
  have QQ := Lib.hid (And.intro (Q6S.mk q1 q2 q3) q4)
  have QN := Lib.hid q5
  have x0 := q1.c0
  have x1 := q1.c1
  obtain ⟨zl, hzl⟩ : ∃ zl, zl = w.heap.size := ⟨_, rfl⟩
  obtain ⟨zm, hzm⟩ : ∃ zm, zm = w.heap.size + 1 := ⟨_, rfl⟩
  obtain ⟨zk, hzk⟩ : ∃ zk, zk = w.heap.size + 1 + 1 := ⟨_, rfl⟩
  obtain ⟨zr, hzr⟩ : ∃ zr, zr = w.heap.size + 1 + 1 + 1 := ⟨_, rfl⟩
  obtain ⟨zn, hzn⟩ : ∃ zn, zn = w.heap.size + 1 + 1 + 1 + 1 := ⟨_, rfl⟩
  have ZL := Lib.hid (show bh < w.heap.size ∧ zl = w.heap.size ∧ zm = w.heap.size + 1 ∧ zk = w.heap.size + 2 ∧ zr = w.heap.size + 3 ∧ zn = w.heap.size + 4 from ⟨hbl, hzl, hzm, hzk, hzr, hzn⟩)
  have HZZ := Lib.hid (And.intro hzl (And.intro hzm (And.intro hzk (And.intro hzr hzn))))
  have HMM := Lib.hid hM
  have NBH := Lib.hid nbh
  clear h hh nbh hkb hM hg hWS hsz hb0 q1 q2 q3 q4 q5 hbl hzl hzm hzk hzr hzn
  go_enter Tryz.func95, Tryz.ntmps95
  go_upto_region 2 with fail
  rw [← HW0.out]
  clear HW0
  go_wp2_with fail
  refine (HLK.out _).mono ?_
  rintro e w1 ⟨rfl, hb1⟩
  have QQ1 := Lib.hid (And.intro (QQ.out.1.kp (Kp.of_below hb1 (fun _ => False)) ⟨id, id, id⟩) (QQ.out.2.kp (Kp.of_below hb1 (fun _ => False)) id))
  have QN1 := Lib.hid (QN.out.below hb1)
  have HHS1 := Lib.hid (HHS.out.below hb1)
  have HB1 := Lib.hid (HB0.out.trans (hb1.mono HB0.out.size))
  have S1 := Lib.hid hb1.size
  clear hb1 x0 x1 HLK
  go_upto_region 4 with fail
  obtain ⟨e1, e2, e3, e4, e5⟩ := HZZ.out
  rw [← e4, ← e3, ← e2, ← e1] at QQ1
  rw [← e5] at QN1
  rw [← e5, ← e4, ← e3, ← e2, ← e1]
  clear e1 e2 e3 e4 e5
  go_cut [10] from 21 to 29 (fun s10 wc => ∃ z10, s10 = .pointer (some ⟨z10, 0, none⟩) ∧ w.heap.size + 5 ≤ z10 ∧ WC wc z10 ⟨b, bh, ow, g, root, none, 0, 0, none, 0, 0, none, 0, 0, 0, false⟩ ∧ Q6S wc zl zm zk b bh N root k ∧ Hs wc bh seed ∧ Kp (fun q => q = bh) w1 wc)
  case first =>
    have l0 : ∀ W', Q6S W' zl zm zk b bh N root k → W'.cell? ⟨zl, 0, none⟩ = some (ap b) := fun W' h => h.lb.c0
    have l1 : ∀ W', Q6S W' zl zm zk b bh N root k → W'.cell? ⟨zl, 1, none⟩ = some (.pointer (some ⟨bh, 0, none⟩)) := fun W' h => h.lb.c1
    have mm1 : ∀ W', Q6S W' zl zm zk b bh N root k → W'.cell? ⟨zm, 1, none⟩ = some (.int .i64 (root : Int)) := fun W' h => h.mb.c1
    have k0 : ∀ W', Q6S W' zl zm zk b bh N root k → W'.cell? ⟨zk, 0, none⟩ = some (.int .u8 k.1) := fun W' h => h.kb.c0
    have k1 : ∀ W', Q6S W' zl zm zk b bh N root k → W'.cell? ⟨zk, 1, none⟩ = some (.int .i64 k.2.1) := fun W' h => h.kb.c1
    have k2 : ∀ W', Q6S W' zl zm zk b bh N root k → W'.cell? ⟨zk, 2, none⟩ = some (.string k.2.2) := fun W' h => h.kb.c2
    have ZS := Lib.hid (show w.heap.size + 5 ≤ w1.heap.size from by have h1 := SZ.out; have h2 := S1.out; omega)
    have WSS := Lib.hid (show w1.heap.size ≤ w1.heap.size from Nat.le_refl _)
    have hSS : Q6S w1.drew zl zm zk b bh N root k := QQ1.out.1.kp (Kp.of_below (Below.refl _ w1).drew (fun _ => False)) ⟨id, id, id⟩
    refine wp_region_noPanic ?_
    refine wp_region_held_drew (S := fun W' => Q6S W' zl zm zk b bh N root k) (by kernel_rfl) hSS (fun hH => ?_)
    have hS0 := hH
    have hHS0 : Hs w1.drew bh seed := HHS1.out.kp (Kp.of_below (Below.refl _ w1).drew (fun _ => False)) id
    have hKP0 : Kp (fun q => q = bh) w1 w1.drew := (Kp.refl _ w1).drew
    clear hSS
    generalize w1.drew = W0 at hH hS0 hHS0 hKP0 ⊢
    refine tkH ?_ 0 hH ?_ ?_; rotate_left
    · intro W' hS; go_simp; with_reducible rfl
    simp only [tkr]
    refine tkH ?_ 1 hH ?_ ?_; rotate_left
    · intro W' hS; go_simp; with_reducible rfl
    simp only [tkr]
    refine tkH ?_ 2 hH ?_ ?_; rotate_left
    · intro W' hS; go_simp; with_reducible rfl
    simp only [tkr]
    refine tkH ?_ 3 hH ?_ ?_; rotate_left
    · intro W' hS; go_simp; with_reducible rfl
    simp only [tkr]
    refine tkH ?_ 4 hH ?_ ?_; rotate_left
    · intro W' hS; go_simp; with_reducible rfl
    simp only [tkr]
    refine tkH ?_ 6 hH ?_ ?_; rotate_left
    · intro W' hS; go_simp; with_reducible rfl
    simp only [tkr]
    refine tkH ?_ 7 hH ?_ ?_; rotate_left
    · intro W' hS; go_simp; with_reducible rfl
    simp only [tkr]
    refine wpAnyH_ready (rs := [5, 9]) (by kernel_rfl) (by simp) ?_
    refine AllReadyH.cons rfl (fun K hK => ?_) (AllReadyH.cons rfl (fun K hK => ?_) AllReadyH.nil)
    · go_simp
      refine (HOF.out W0 hHS0).mono ?_
      rintro e W1 ⟨rfl, hHS1, hgr⟩
      have hk1 : Kp (fun q => q = bh) W0 W1 := Kp.of_grown hgr (fun q hq => .inl (by cases hq; rfl))
      have hS1 := hS0.kp hk1 (by have := ZL.out; omega)
      have hKP1 := hKP0.trans hk1 (fun q h => .inl h)
      clear hgr
      simp only
      refine hK.out _ _ ?_ (fun hH => ?_)
      · exact hS1
      clear hK K
      refine tkH ?_ 8 hH ?_ ?_; rotate_left
      · intro W' hS; go_simp; with_reducible rfl
      simp only [tkr]
      refine rdH 9 rfl (fun K hK => ?_)
      go_simp
      have hS2 := hS1.kp ((Kp.refl (fun _ => False) W1).alloc (.cells #[.pointer none, .pointer none, .int .u32 0, .int .u64 0, .int .i64 0, .slice none 0 0, .slice none 0 0, .slice none 0 0, .int .i64 0, .bool false] 169)) ⟨id, id, id⟩
      have hHS2 := hHS1.alloc (.cells #[.pointer none, .pointer none, .int .u32 0, .int .u64 0, .int .i64 0, .slice none 0 0, .slice none 0 0, .slice none 0 0, .int .i64 0, .bool false] 169)
      have hKP2 := hKP1.alloc (.cells #[.pointer none, .pointer none, .int .u32 0, .int .u64 0, .int .i64 0, .slice none 0 0, .slice none 0 0, .slice none 0 0, .int .i64 0, .bool false] 169)
      have hZ2 : ZW (W1.alloc (.cells #[.pointer none, .pointer none, .int .u32 0, .int .u64 0, .int .i64 0, .slice none 0 0, .slice none 0 0, .slice none 0 0, .int .i64 0, .bool false] 169)) W1.heap.size := heap_alloc_new W1 _
      have hN2 : w1.heap.size ≤ W1.heap.size := hKP1.size
      refine hK.out _ _ ?_ (fun hH => ?_)
      · exact hS2
      clear hK K hH
      generalize W1.alloc (.cells #[.pointer none, .pointer none, .int .u32 0, .int .u64 0, .int .i64 0, .slice none 0 0, .slice none 0 0, .slice none 0 0, .int .i64 0, .bool false] 169) = W2 at hS2 hHS2 hKP2 hZ2 ⊢
      generalize W1.heap.size = b2 at hZ2 hN2 ⊢
      refine rdH 10 rfl (fun K hK => ?_)
      obtain ⟨c0, c1, c2, c3, c4, c5, c6, c7, c8, c9⟩ := hZ2.all
      obtain ⟨f0, f1, f2, f3, f4, f5, f6, f7, f8, f9⟩ := hZ2.fzs
      go_simp
      clear c0 c1 c2 c3 c4 c5 c6 c7 c8 c9 f0 f1 f2 f3 f4 f5 f6 f7 f8 f9
      have hP := hZ2.put ⟨b, bh, ow, g, root, none, 0, 0, none, 0, 0, none, 0, 0, 0, false⟩
      have fin : ∀ W9, Kp (fun q => q = b2) W2 W9 → Q6S W9 zl zm zk b bh N root k ∧ Hs W9 bh seed ∧ Kp (fun q => q = bh) w1 W9 := fun W9 h9 => by
        have h1 := hN2
        have h2 := ZL.out
        have h3 := ZS.out
        exact ⟨hS2.kp h9 (by omega), hHS2.kp h9 (by omega), hKP2.trans h9 (fun q h => .inr (by have := ZS.out; omega))⟩
      refine hK.out _ _ ?_ (fun hH => ?_)
      · refine (fin _ ?_).1
        repeat first
          | with_reducible exact Kp.refl _ _
          | with_reducible refine Kp.setCell ?_ (by simp) _
      clear hK K
      refine wpAnyH_done (by kernel_rfl) ?_ _
      refine NoPanic.normal ?_
      clear l0 l1 mm1 k0 k1 k2
      go_wp2_with fail
      go_meet
      refine ⟨b2, rfl, Nat.le_trans ZS.out hN2, hP, fin _ ?_⟩
      repeat first
        | with_reducible exact Kp.refl _ _
        | with_reducible refine Kp.setCell ?_ (by simp) _
    · go_simp
      have hS3 := hS0.kp ((Kp.refl (fun _ => False) W0).alloc (.cells #[.pointer none, .pointer none, .int .u32 0, .int .u64 0, .int .i64 0, .slice none 0 0, .slice none 0 0, .slice none 0 0, .int .i64 0, .bool false] 169)) ⟨id, id, id⟩
      have hHS3 := hHS0.alloc (.cells #[.pointer none, .pointer none, .int .u32 0, .int .u64 0, .int .i64 0, .slice none 0 0, .slice none 0 0, .slice none 0 0, .int .i64 0, .bool false] 169)
      have hKP3 := hKP0.alloc (.cells #[.pointer none, .pointer none, .int .u32 0, .int .u64 0, .int .i64 0, .slice none 0 0, .slice none 0 0, .slice none 0 0, .int .i64 0, .bool false] 169)
      have hZ3 : ZW (W0.alloc (.cells #[.pointer none, .pointer none, .int .u32 0, .int .u64 0, .int .i64 0, .slice none 0 0, .slice none 0 0, .slice none 0 0, .int .i64 0, .bool false] 169)) W0.heap.size := heap_alloc_new W0 _
      have hN3 : w1.heap.size ≤ W0.heap.size := hKP0.size
      refine hK.out _ _ ?_ (fun hH => ?_)
      · exact hS3
      clear hK K hH
      generalize W0.alloc (.cells #[.pointer none, .pointer none, .int .u32 0, .int .u64 0, .int .i64 0, .slice none 0 0, .slice none 0 0, .slice none 0 0, .int .i64 0, .bool false] 169) = W3 at hS3 hHS3 hKP3 hZ3 ⊢
      generalize W0.heap.size = b3 at hZ3 hN3 ⊢
      refine rdH 5 rfl (fun K hK => ?_)
      go_simp
      refine (HOF.out W3 hHS3).mono ?_
      rintro e W4 ⟨rfl, hHS4, hgr⟩
      have hk4 : Kp (fun q => q = bh) W3 W4 := Kp.of_grown hgr (fun q hq => .inl (by cases hq; rfl))
      have hS4 := hS3.kp hk4 (by have := ZL.out; omega)
      have hKP4 := hKP3.trans hk4 (fun q h => .inl h)
      have hZ4 := hZ3.kp hk4 (by have := ZL.out; have := hN3; have := ZS.out; omega)
      have hN4 := hN3
      clear hgr
      simp only
      refine hK.out _ _ ?_ (fun hH => ?_)
      · exact hS4
      clear hK K
      refine tkH ?_ 8 hH ?_ ?_; rotate_left
      · intro W' hS; go_simp; with_reducible rfl
      simp only [tkr]
      refine rdH 10 rfl (fun K hK => ?_)
      obtain ⟨c0, c1, c2, c3, c4, c5, c6, c7, c8, c9⟩ := hZ4.all
      obtain ⟨f0, f1, f2, f3, f4, f5, f6, f7, f8, f9⟩ := hZ4.fzs
      go_simp
      clear c0 c1 c2 c3 c4 c5 c6 c7 c8 c9 f0 f1 f2 f3 f4 f5 f6 f7 f8 f9
      have hP := hZ4.put ⟨b, bh, ow, g, root, none, 0, 0, none, 0, 0, none, 0, 0, 0, false⟩
      have fin : ∀ W9, Kp (fun q => q = b3) W4 W9 → Q6S W9 zl zm zk b bh N root k ∧ Hs W9 bh seed ∧ Kp (fun q => q = bh) w1 W9 := fun W9 h9 => by
        have h1 := hN4
        have h2 := ZL.out
        have h3 := ZS.out
        exact ⟨hS4.kp h9 (by omega), hHS4.kp h9 (by omega), hKP4.trans h9 (fun q h => .inr (by have := ZS.out; omega))⟩
      refine hK.out _ _ ?_ (fun hH => ?_)
      · refine (fin _ ?_).1
        repeat first
          | with_reducible exact Kp.refl _ _
          | with_reducible refine Kp.setCell ?_ (by simp) _
      clear hK K
      refine wpAnyH_done (by kernel_rfl) ?_ _
      refine NoPanic.normal ?_
      clear l0 l1 mm1 k0 k1 k2
      go_wp2_with fail
      go_meet
      refine ⟨b3, rfl, Nat.le_trans ZS.out hN4, hP, fin _ ?_⟩
      repeat first
        | with_reducible exact Kp.refl _ _
        | with_reducible refine Kp.setCell ?_ (by simp) _
  case rest =>
    obtain ⟨z10, rfl, hz10, hP, hQ, hH2, hK2⟩ := hcut
    have hzl := ZL.out
    have hr2 := QQ1.out.2.kp hK2 (by omega)
    have hn2 := QN1.out.kp hK2 (by omega)
    have hk2 := (Kp.of_below HB1.out (fun q => q = bh)).trans hK2 (fun q h => .inl h)
    have HX := Lib.hid (And.intro hH2 (And.intro hk2 (And.intro hQ.lb (And.intro hr2 hn2))))
    have mm1 := hQ.mb.c1
    clear hz10 hP hQ hH2 hK2 hzl hr2 hn2 hk2
    go_upto_region 6 with fail
    go_loopg [11, 12] 0 (fun _ s11 s12 wr => s11 = .int .i64 (root : Int) ∧ s12 = .int .i64 (-1) ∧ Hs wr bh seed ∧ Kp (fun q => q = bh) w wr ∧ C2 wr zl 26 (ap b) (.pointer (some ⟨bh, 0, none⟩)) ∧ ZW wr zr ∧ WC wr zn (zway b bh ow))
    case atStart => exact ⟨rfl, rfl, HX.out⟩
    case round =>
      obtain ⟨rfl, rfl, h1, h2, h3, h4, h5⟩ := hrel
      have har : Ar wr b most M F := HA.out.kp h2 (fun x hx hg => NBH.out (hg ▸ hx))
      have HBE := Lib.hid (vbelow_no bh root (-1) wr har HMM.out)
      have HX2 := Lib.hid (And.intro h1 (And.intro h2 (And.intro h4 h5)))
      have x0 := h3.c0
      have x1 := h3.c1
      clear h1 h2 h3 h4 h5 har HX mm1
      go_wp2_with fail
      refine HBE.out.mono ?_
      rintro e w3 ⟨rfl, hb3⟩
      have HX3 := Lib.hid (And.intro (HX2.out.1.below hb3) (And.intro (HX2.out.2.1.trans (Kp.of_below hb3 (fun q => q = bh)) (fun q h => .inl h)) (And.intro (HX2.out.2.2.1.kp (Kp.of_below hb3 (fun _ => False)) id) (HX2.out.2.2.2.below hb3))))
      have hzs : zr < w3.heap.size := HX3.out.2.2.1.lt
      clear hb3 x0 x1 HX2
      go_upto_region 9 with fail
      have k4 : Kp (fun _ => False) w3 (w3.alloc (.cells #[.int .u32 0, .int .u32 0, .int .u32 0, .slice none 0 0, .slice none 0 0] 109)) := (Kp.refl _ w3).alloc _
      have h1 := HX3.out.1.kp k4 id
      have h2 := HX3.out.2.1.trans k4 (fun _ h => h.elim)
      have h3 := HX3.out.2.2.1.kp k4 id
      have h4 := HX3.out.2.2.2.kp k4 id
      generalize w3.alloc (.cells #[.int .u32 0, .int .u32 0, .int .u32 0, .slice none 0 0, .slice none 0 0] 109) = w4 at h1 h2 h3 h4 ⊢
      have fin : ∀ W9, Kp (fun q => q = zr) w4 W9 → Kp (fun q => q = bh) w W9 ∧ Hs W9 bh seed := fun W9 h9 => by
        have h6 := ZL.out
        exact ⟨h2.trans h9 (fun q e => .inr (by omega)), h1.kp h9 (by omega)⟩
      have FIN := Lib.hid fin
      obtain ⟨m0, m1, m2, m3, m4, m5, m6, m7, m8, m9⟩ := h4.all
      obtain ⟨f0, f1, f2, f3, f4, f5, f6, f7, f8, f9⟩ := h3.fzs
      obtain ⟨c0, c1, c2, c3, c4', c5', c6', c7, c8, c9⟩ := h3.all
      clear k4 h1 h2 h3 h4 fin hzs
      go_wp2_with fail
      refine bodyPost_ret (v := wagg (zway b bh ow)) (by simp [results, Tryz.results95, go_sem, c0, c1, c2, c3, c4', c5', c6', c7, c8, c9]) rfl ⟨rfl, FIN.out _ ?_⟩
      repeat first
        | with_reducible exact Kp.refl _ _
        | with_reducible refine Kp.setCell ?_ (by simp) _
end
end Go.Proofs.YtdddhmipifkepaaGreat

namespace Go.Proofs.YtdddhmipifkepaaGreat
set_option maxRecDepth 100000
open Go.RowKit
section
variable {most : Nat} {M : Cells} {F : Nat → Prop} {hs : Ky → Nat}
set_option maxHeartbeats 3000000 in
theorem vputE (b bh seed : Nat) (k v : Ky) (ow : Int) (P : Nat → Nat) (w : World) (h : Ar w b most M F) (hm : most ≤ 1048576) (hb : Bk (most + 1) M [] P [0]) (hP : ∀ j, P j ≤ 576460752303423488) (hh : Hs w bh seed) (nbh : ¬ F bh) :
    Calls Tryz.prog 96 #[wagg (zway b bh ow), xagg k, xagg v] w fun e w' => (e = .returned (.tuple #[.int .i64 0, .int .i64 5]) ∧ most < live (most + 1) M + 16 ∧ Kp (fun q => q = bh) w w' ∧ Hs w' bh seed) ∨
      ∃ n M', e = .returned (.tuple #[.int .i64 (n : Nat), .int .i64 0]) ∧ 1 ≤ n ∧ MRes most M P hs k (fun q => q = (k, v)) 0 ow [] 16 n M' ∧ StpH w w' b bh seed most M' F := by
  obtain ⟨W0, hW0⟩ : ∃ W0, W0 = ((w.alloc (.cells #[ap b, .pointer (some ⟨bh, 0, none⟩), .int .u32 ow, .int .u64 0, .int .i64 0, .slice none 0 0, .slice none 0 0, .slice none 0 0, .int .i64 0, .bool false] 169)).alloc (.cells #[.int .u8 k.1, .int .i64 k.2.1, .string k.2.2] 36)).alloc (.cells #[.int .u8 v.1, .int .i64 v.2.1, .string v.2.2] 36) := ⟨_, rfl⟩
  have hb0 : Below w.heap.size w W0 := by rw [hW0]; exact (((Below.refl _ w).alloc (Nat.le_refl _) _).alloc (by simp) _).alloc (by simp; omega) _
  have q0 : WC W0 w.heap.size (zway b bh ow) := by rw [hW0]; exact ((WC.new w (zway b bh ow)).alloc _).alloc _
  have q2 : C3 W0 (w.heap.size + 1) 36 (.int .u8 k.1) (.int .i64 k.2.1) (.string k.2.2) := by
    have h := (C3.new (w.alloc (.cells #[ap b, .pointer (some ⟨bh, 0, none⟩), .int .u32 ow, .int .u64 0, .int .i64 0, .slice none 0 0, .slice none 0 0, .slice none 0 0, .int .i64 0, .bool false] 169)) 36 (.int .u8 k.1) (.int .i64 k.2.1) (.string k.2.2)).alloc (.cells #[.int .u8 v.1, .int .i64 v.2.1, .string v.2.2] 36)
    rw [hW0]
    simpa using h
  have q3 : C3 W0 (w.heap.size + 1 + 1) 36 (.int .u8 v.1) (.int .i64 v.2.1) (.string v.2.2) := by
    have h := C3.new ((w.alloc (.cells #[ap b, .pointer (some ⟨bh, 0, none⟩), .int .u32 ow, .int .u64 0, .int .i64 0, .slice none 0 0, .slice none 0 0, .slice none 0 0, .int .i64 0, .bool false] 169)).alloc (.cells #[.int .u8 k.1, .int .i64 k.2.1, .string k.2.2] 36)) 36 (.int .u8 v.1) (.int .i64 v.2.1) (.string v.2.2)
    rw [hW0]
    simpa using h
  obtain ⟨z3, hz3⟩ : ∃ z3, z3 = w.heap.size := ⟨_, rfl⟩
  obtain ⟨z4, hz4⟩ : ∃ z4, z4 = w.heap.size + 1 := ⟨_, rfl⟩
  obtain ⟨z5, hz5⟩ : ∃ z5, z5 = w.heap.size + 1 + 1 := ⟨_, rfl⟩
  have hFlt : ∀ q, F q → q < w.heap.size := fun q hq => h.lt hq
  have hrep : Calls Tryz.prog 157 #[wagg (zway b bh ow), .int .i64 0, .int .i64 1, .func (.func 158) #[] #[.pointer (some ⟨z3, 0, none⟩), .pointer (some ⟨z4, 0, none⟩), .pointer (some ⟨z5, 0, none⟩)]] W0 fun e w' => ∃ a c, e = .returned (.tuple #[a, c]) ∧ ((a = .int .i64 0 ∧ c = .int .i64 5 ∧ most < live (most + 1) M + 16 ∧ Kp (fun q => q = bh) w w' ∧ Hs w' bh seed) ∨ ∃ n M', a = .int .i64 (n : Nat) ∧ c = .int .i64 0 ∧ 1 ≤ n ∧ MRes most M P hs k (fun q => q = (k, v)) 0 ow [] 16 n M' ∧ StpH w w' b bh seed most M' F) := by
    rw [hz3, hz4, hz5]
    refine vreplaceE b bh ow _ (fun a c w' => ((a = .int .i64 0 ∧ c = .int .i64 5 ∧ most < live (most + 1) M + 16 ∧ Kp (fun q => q = bh) w w' ∧ Hs w' bh seed) ∨ ∃ n M', a = .int .i64 (n : Nat) ∧ c = .int .i64 0 ∧ 1 ≤ n ∧ MRes most M P hs k (fun q => q = (k, v)) 0 ow [] 16 n M' ∧ StpH w w' b bh seed most M' F)) W0 (fun W hW => ?_) (fun W hW => ?_)
    · refine (vfresh ow [] (.slice none 0 0) W ((h.below hb0).below hW) (Rd.nil _) (by decide)).mono ?_
      rintro e W' ⟨rfl, hb1⟩
      exact ⟨rfl, hb1⟩
    · have hbW : Below w.heap.size w W := hb0.trans (hW.mono hb0.size)
      by_cases hroom : live (most + 1) M + 1 ≤ most
      · refine (vdoE (hs := hs) (k := k) (v := v) b bh w.heap.size (w.heap.size + 1) (w.heap.size + 1 + 1) ow P W (h.below hbW) hm hb hP hroom (q0.below hW) (q2.below hW) (q3.below hW) (fun z hz hf => by have := hFlt z hf; omega)).mono ?_
        rintro e W' ⟨n, M', rfl, n1, hr, hs1⟩
        exact ⟨_, _, rfl, .inr ⟨n, M', rfl, rfl, n1, hr.le (by decide), StpH.mk' hFlt (Kp.of_below hbW (fun q => q = bh)) (hh.below hbW) nbh hs1⟩⟩
      · refine (vdo_full (zway b bh ow) 0 1 _ W (h.below hbW) (by omega)).mono ?_
        rintro e W' ⟨rfl, hb2⟩
        have hb3 := hbW.trans (hb2.mono hbW.size)
        exact ⟨_, _, rfl, .inl ⟨rfl, rfl, by omega, Kp.of_below hb3 _, hh.below hb3⟩⟩
  have HREP := Lib.hid hrep
  have HW0 := Lib.hid hW0
  have HZZ := Lib.hid (And.intro hz3 (And.intro hz4 hz5))
  obtain ⟨m0, m1, m2, m3, m4, m5, m6, m7, m8, m9⟩ := q0.all
  simp only at m0 m1 m2 m3 m4 m5 m6 m7 m8 m9
  clear h hm hb hP hh nbh hb0 q0 q2 q3 hFlt hrep hW0 hz3 hz4 hz5
  go_enter Tryz.func96, Tryz.ntmps96
  go_upto_region 1 with fail
  rw [← HW0.out]
  clear HW0
  obtain ⟨e1, e2, e3⟩ := HZZ.out
  rw [← e3, ← e2, ← e1]
  rw [← e1] at m0 m1 m2 m3 m4 m5 m6 m7 m8 m9
  clear e1 e2 e3 HZZ
  go_wp2_with fail
  refine HREP.out.mono ?_
  rintro e w' ⟨a, c, rfl, hR⟩
  have HR := Lib.hid hR
  clear hR
  go_wp2_with fail
  refine bodyPost_ret (v := .tuple #[a, c]) (by simp [results, Tryz.results96, go_sem]) rfl ?_
  rcases HR.out with ⟨rfl, rfl, h1⟩ | ⟨n, M', rfl, rfl, h1⟩
  · exact .inl ⟨rfl, h1⟩
  · exact .inr ⟨n, M', rfl, h1⟩
end
end Go.Proofs.YtdddhmipifkepaaGreat

namespace Go.Proofs.YtdddhmipifkepaaGreat
set_option maxRecDepth 100000
open Go.RowKit
def Mp (M : Cells) (hs : Ky → Nat) (root : Nat) (l : List Pr) : Prop := (l = [] ∧ root = 0) ∨ HT M hs 0 root l
theorem Mp.srt {M : Cells} {hs : Ky → Nat} {root : Nat} {l : List Pr} (h : Mp M hs root l) : Srt hs l := by
  rcases h with ⟨rfl, _⟩ | h
  · exact List.Pairwise.nil
  · exact h.srt
structure MapR (most : Nat) (M : Cells) (P : Nat → Nat) (hs : Ky → Nat) (root : Nat) (ow : Int) (l' : List Pr) (n : Nat) (M' : Cells) : Prop where
  bk : Bk (most + 1) M' [] (out1 P root ow) [n]
  keeps : Keeps (out1 P root ow) M M'
  live : live (most + 1) M' ≤ Proofs.YtdddhmipifkepaaGreat.live (most + 1) M + 16
  mp : Mp M' hs n l'
theorem MRes.put {most : Nat} {M : Cells} {P : Nat → Nat} {hs : Ky → Nat} {k v : Ky} {root : Nat} {ow : Int} {l : List Pr} {n : Nat} {M' : Cells} (h : MRes most M P hs k (fun q => q = (k, v)) root ow l 16 n M') (hl : Srt hs l) : MapR most M P hs root ow (putL hs (k, v) l) n M' := by
  obtain ⟨l', hT, hc⟩ := h.ht
  have e := putL_uniq hl hT.srt hc
  exact ⟨h.bk, h.keeps, h.live, .inr (e ▸ hT)⟩
theorem StpH.close {w w3 w' w'' : World} {b bh seed most : Nat} {M' : Cells} {F G : Nat → Prop} (hF : ∀ q, F q → q < w.heap.size) (hbh : bh < w.heap.size) (hk : Kp (fun q => q = bh) w w3) (hs : StpH w3 w' b bh seed most M' F) (h9 : Kp G w' w'') (hG : ∀ q, G q → w.heap.size ≤ q ∧ q < w3.heap.size) : StpH w w'' b bh seed most M' F := by
  have s1 := hk.size
  have s2 := hs.kp.size
  have s3 := h9.size
  have ha : Ar w'' b most M' (Fn F w3 w') := hs.ar.kp h9 (fun q hq hg => by
    have := hG q hg
    rcases hq with hq | hq
    · have := hF q hq; omega
    · omega)
  refine ⟨ha.mono (fun q hq => ?_) (fun q hq => ?_), ?_, hs.hh.kp h9 (fun hg => by have := hG bh hg; omega)⟩
  · rcases hq with hq | hq
    · exact .inl hq
    · exact .inr ⟨by omega, by omega⟩
  · rcases hq with hq | hq
    · have := hF q hq; omega
    · exact hq.2
  · exact ((hk.mono (fun q h _ => .inr h)).trans hs.kp (fun q h => .inl h)).trans h9 (fun q h => .inr (hG q h).1)
section
variable {most : Nat} {M : Cells} {F : Nat → Prop} {hs : Ky → Nat} {l : List Pr}
theorem own_zero {w : World} {base t sz n : Nat} {v : Value} {xs : List Value} (h : w.ownsRow base t sz v n xs) : w.ownsRow 0 t sz v n xs := by
  refine ⟨h.1, ?_⟩
  rcases h.2 with h | ⟨g, cap, cur, h1, _, h3⟩
  · exact .inl h
  · exact .inr ⟨g, cap, cur, h1, Nat.zero_le _, h3⟩
theorem vwayP (b bh seed root : Nat) (k v : Ky) (ow : Int) (P : Nat → Nat) (w : World) (h : Ar w b most M F) (hm : most ≤ 1048576) (hb : Bk (most + 1) M [] P [root]) (hP : ∀ j, P j ≤ 576460752303423488) (hT : Mp M hs root l) (hh : Hs w bh seed) (nbh : ¬ F bh) (hhs : ∀ q, OkK q → hs q = hashN seed q.1 q.2.1 q.2.2) (hkl : ∀ q ∈ l, OkK q.1) (hk : OkK k) (hlen : l.length ≤ 1024) :
    Calls Tryz.prog 95 #[land b bh, .agg #[.int .i64 (l.length : Nat), .int .i64 (root : Nat)], xagg k, .int .u32 ow] w fun e W' => ∃ x : Wv, e = .returned (wagg x) ∧ x.has = hasB k l ∧ Kp (fun q => q = bh) w W' ∧ Hs W' bh seed ∧
      ∀ W2, Kp (fun q => q = bh) W' W2 → Hs W2 bh seed → Calls Tryz.prog 96 #[wagg x, xagg k, xagg v] W2 fun e w' => ∃ a c, e = .returned (.tuple #[a, c]) ∧ ((a = .int .i64 0 ∧ c = .int .i64 5 ∧ most < live (most + 1) M + 16 ∧ Kp (fun q => q = bh) W2 w' ∧ Hs w' bh seed) ∨
        ∃ n M', a = .int .i64 (n : Nat) ∧ c = .int .i64 0 ∧ 1 ≤ n ∧ MapR most M P hs root ow (putL hs (k, v) l) n M' ∧ StpH W2 w' b bh seed most M' F) := by
  have hbl := hh.lt
  have hfl : ∀ q, F q → q < w.heap.size := fun q hq => h.lt hq
  rcases hT with ⟨rfl, rfl⟩ | hT
  · refine (vwayToE (M := M) bh seed 0 0 k ow w h hh nbh hk hb.zero).mono ?_
    rintro e W' ⟨rfl, k1, h1⟩
    refine ⟨_, rfl, rfl, k1, h1, fun W2 k2 h2 => ?_⟩
    refine (vputE (hs := hs) b bh seed k v ow P W2 (h.kp (k1.trans k2 (fun q e => .inl e)) (fun q hq e => nbh (e ▸ hq))) hm hb hP h2 nbh).mono ?_
    rintro e w' (⟨rfl, h3⟩ | ⟨n, M', rfl, n1, h3, h4⟩)
    · exact ⟨_, _, rfl, .inl ⟨rfl, rfl, h3⟩⟩
    · exact ⟨_, _, rfl, .inr ⟨n, M', rfl, rfl, n1, h3.put List.Pairwise.nil, h4⟩⟩
  · refine (vwayTo bh seed l.length root k ow l hs w h hh nbh hk (hhs k hk) hT (by omega)).mono ?_
    rintro e W' ⟨x, cl, lf, rfl, hW, hR⟩
    obtain ⟨x1, x2, x3, x4, x5, x6, x7⟩ := hR.xb
    refine ⟨x, rfl, ?_, hR.kp, hR.hh, fun W2 k2 h2 => ?_⟩
    · rw [x7]
      exact Bool.eq_iff_iff.2 ((hW.has rfl).trans hasB_iff.symm)
    · have hz : ∀ {v : Value} {t n sz : Nat} {xs : List Value}, W'.ownsRow w.heap.size t sz v n xs → W2.ownsRow 0 t sz v n xs := fun ho => own_zero (k2.own ho (fun q hq e => by have := (own_blk ho q hq).1; omega))
      subst x1 x2 x3 x5
      refine (vput x x.bh seed k v cl P W2 (h.kp (hR.kp.trans k2 (fun q e => .inl e)) (fun q hq e => nbh (e ▸ hq))) hm x4.symm hb hP hW h2 rfl nbh hhs hkl (by omega) (hz hR.o4) (hz hR.o5) (hz hR.o6) hR.len.1 hR.len.2.1 hR.len.2.2 x6 x7).mono ?_
      rintro e w' (⟨rfl, h3⟩ | ⟨n, M', rfl, n1, h3, h4⟩)
      · exact ⟨_, _, rfl, .inl ⟨rfl, rfl, h3⟩⟩
      · exact ⟨_, _, rfl, .inr ⟨n, M', rfl, rfl, n1, h3.put hT.srt, h4⟩⟩
end
end Go.Proofs.YtdddhmipifkepaaGreat

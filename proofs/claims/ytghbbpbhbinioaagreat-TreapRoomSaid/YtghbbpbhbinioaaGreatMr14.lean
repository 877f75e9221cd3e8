/- Several texts in one. -/
import Derived.Test.YtghbbpbhbinioaaGreatMr13
import Derived.Test.YtghbbpbhbinioaaGreatMr11
import Derived.StillTailTactics
set_option linter.unusedSimpArgs false
namespace Go.Proofs.YtghbbpbhbinioaaGreat
set_option maxRecDepth 100000
set_option linter.unusedSimpArgs false
set_option linter.unusedVariables false
open Go.RowKit
section
set_option maxHeartbeats 1600000 in
theorem vpart_nil (x : Yv) (A : Option Addr) (c : Nat) (w : World) :
    Calls Tryz.prog 124 #[yagg x, .slice A 0 c] w fun e w' => e = .returned (.agg #[.int .i64 0, .int .i64 0]) ∧ Below w.heap.size w w' := by
  have e1 : (w.alloc (.cells (ycells x) 146)).heap.size = w.heap.size + 1 := by simp
  have e2 : ((w.alloc (.cells (ycells x) 146)).alloc (.cells #[.slice A 0 c] 137)).heap.size = w.heap.size + 1 + 1 := by simp
  have e3 : (((w.alloc (.cells (ycells x) 146)).alloc (.cells #[.slice A 0 c] 137)).alloc (.cells #[.int .i64 0, .int .i64 0] 142)).heap.size = w.heap.size + 1 + 1 + 1 := by simp
  have hb : Below w.heap.size w ((((w.alloc (.cells (ycells x) 146)).alloc (.cells #[.slice A 0 c] 137)).alloc (.cells #[.int .i64 0, .int .i64 0] 142)).alloc (.cells #[.int .i64 0, .int .i64 0] 142)) := ((((Below.refl _ w).alloc (Nat.le_refl _) _).alloc (by simp) _).alloc (by simp; omega) _).alloc (by simp; omega) _
  have q2 := (((BC.new w 146 (ycells x)).alloc (.cells #[.slice A 0 c] 137)).alloc (.cells #[.int .i64 0, .int .i64 0] 142)).alloc (.cells #[.int .i64 0, .int .i64 0] 142)
  have q3 := ((C1.new (w.alloc (.cells (ycells x) 146)) 137 (.slice A 0 c)).alloc (.cells #[.int .i64 0, .int .i64 0] 142)).alloc (.cells #[.int .i64 0, .int .i64 0] 142)
  have q4 := (C2.new ((w.alloc (.cells (ycells x) 146)).alloc (.cells #[.slice A 0 c] 137)) 142 (.int .i64 0) (.int .i64 0)).alloc (.cells #[.int .i64 0, .int .i64 0] 142)
  have q5 := C2.new (((w.alloc (.cells (ycells x) 146)).alloc (.cells #[.slice A 0 c] 137)).alloc (.cells #[.int .i64 0, .int .i64 0] 142)) 142 (.int .i64 0) (.int .i64 0)
  rw [e1] at q3
  rw [e2] at q4
  rw [e3] at q5
  have HB := Lib.hid hb
  clear e1 e2 e3 hb
  go_enter Tryz.func124, Tryz.ntmps124
  go_upto_region 2 with fail
  change Code.wp _ _ _ _ ((((w.alloc (.cells (ycells x) 146)).alloc (.cells #[.slice A 0 c] 137)).alloc (.cells #[.int .i64 0, .int .i64 0] 142)).alloc (.cells #[.int .i64 0, .int .i64 0] 142))
  generalize World.alloc (World.alloc (World.alloc (w.alloc _) _) _) _ = W1 at q2 q3 q4 q5 HB ⊢
  obtain ⟨z2, hz2⟩ : ∃ z, z = w.heap.size := ⟨_, rfl⟩
  obtain ⟨z3, hz3⟩ : ∃ z, z = w.heap.size + 1 := ⟨_, rfl⟩
  obtain ⟨z4, hz4⟩ : ∃ z, z = w.heap.size + 1 + 1 := ⟨_, rfl⟩
  obtain ⟨z5, hz5⟩ : ∃ z, z = w.heap.size + 1 + 1 + 1 := ⟨_, rfl⟩
  have HZ := Lib.hid (show z2 = w.heap.size ∧ z3 = w.heap.size + 1 ∧ z4 = w.heap.size + 2 ∧ z5 = w.heap.size + 3 from ⟨hz2, hz3, hz4, hz5⟩)
  rw [← hz5] at q5
  rw [← hz4] at q4
  rw [← hz3] at q3
  rw [← hz2] at q2
  rw [← hz5, ← hz4, ← hz3, ← hz2]
  clear hz2 hz3 hz4 hz5
  have x3 := q3.c0
  clear q2 q3
  obtain ⟨d0, d1, f0, f1⟩ := q4.all
  obtain ⟨a0, a1, _⟩ := q5.all
  go_wp2_with fail
  have q6 := (q4.set0 (.int .i64 0)).set1 (.int .i64 0)
  have b6 := Lib.hid ((HB.out.setCell (p := ⟨z4, 0, none⟩) (show w.heap.size ≤ z4 by have := HZ.out; omega) (.int .i64 0)).setCell (p := ⟨z4, 1, none⟩) (show w.heap.size ≤ z4 by have := HZ.out; omega) (.int .i64 0))
  clear d0 d1 f0 f1 a0 a1 x3
  obtain ⟨d0, d1, _⟩ := q6.all
  exact bodyPost_ret (v := .agg #[.int .i64 0, .int .i64 0]) (by simp [results, Tryz.results124, go_sem, d0, d1]) rfl ⟨rfl, b6.out⟩
set_option maxHeartbeats 8000000 in
theorem vpart_cons {most : Nat} {M : Cells} {F : Nat → Prop} (x : Yv) (n : Nv) (l : List Nv) (A : Option Addr) (c s : Nat) (Q : Nat → Nat → Nat → Cells → Prop) (w : World) (hs : s = sideN n x.key) (hl : NL w A (n :: l)) (hn : l.length ≤ 1000000)
    (h : Ar w x.b most M F) (hAg : ∀ a, A = some a → ¬ F a.block)
    (hc : ∀ W z2 z3 z5 z6, Below w.heap.size w W → w.heap.size ≤ z2 → w.heap.size ≤ z3 → w.heap.size ≤ z5 → w.heap.size ≤ z6 → z2 < z5 → z3 < z5 → z5 < z6 → BC W z2 146 (ycells x) → C1 W z3 137 (.slice A (l.length + 1) c) → C2 W z5 142 (.int .i64 0) (.int .i64 0) → C1 W z6 3 (.int .i64 (s : Nat)) →
      Calls Tryz.prog 117 #[yagg x, nagg n, .func (.func 161) #[] #[.pointer (some ⟨z2, 0, none⟩), .pointer (some ⟨z3, 0, none⟩), .pointer (some ⟨z5, 0, none⟩), .pointer (some ⟨z6, 0, none⟩)]] W fun e W' => ∃ (m p0 p1 : Nat) (M' : Cells), e = .returned (.int .i64 (m : Nat)) ∧ Q m p0 p1 M' ∧ C2 W' z5 142 (.int .i64 (p0 : Nat)) (.int .i64 (p1 : Nat)) ∧ StpX W W' x.b most M' F (fun z => z = z5)) :
    Calls Tryz.prog 124 #[yagg x, .slice A (l.length + 1) c] w fun e w' => ∃ (m p0 p1 : Nat) (M' : Cells), e = .returned (.agg #[.int .i64 ((if s = 0 then p0 else m : Nat)), .int .i64 ((if s = 0 then m else p1 : Nat))]) ∧ Q m p0 p1 M' ∧ Stp w w' x.b most M' F := by
  have hF : ∀ q, F q → q < w.heap.size := fun q hq => h.lt hq
  obtain ⟨k, hk⟩ : ∃ k, k = l.length + 1 := ⟨_, rfl⟩
  rw [← hk] at hc ⊢
  have HK := Lib.hid hk
  have hs01 : s = 0 ∨ s = 1 := by rw [hs]; unfold sideN; split <;> simp
  have HS := Lib.hid (And.intro hs hs01)
  have e1 : (w.alloc (.cells (ycells x) 146)).heap.size = w.heap.size + 1 := by simp
  have e2 : ((w.alloc (.cells (ycells x) 146)).alloc (.cells #[.slice A k c] 137)).heap.size = w.heap.size + 1 + 1 := by simp
  have e3 : (((w.alloc (.cells (ycells x) 146)).alloc (.cells #[.slice A k c] 137)).alloc (.cells #[.int .i64 0, .int .i64 0] 142)).heap.size = w.heap.size + 1 + 1 + 1 := by simp
  have hb : Below w.heap.size w ((((w.alloc (.cells (ycells x) 146)).alloc (.cells #[.slice A k c] 137)).alloc (.cells #[.int .i64 0, .int .i64 0] 142)).alloc (.cells #[.int .i64 0, .int .i64 0] 142)) := ((((Below.refl _ w).alloc (Nat.le_refl _) _).alloc (by simp) _).alloc (by simp; omega) _).alloc (by simp; omega) _
  have q2 := (((BC.new w 146 (ycells x)).alloc (.cells #[.slice A k c] 137)).alloc (.cells #[.int .i64 0, .int .i64 0] 142)).alloc (.cells #[.int .i64 0, .int .i64 0] 142)
  have q3 := ((C1.new (w.alloc (.cells (ycells x) 146)) 137 (.slice A k c)).alloc (.cells #[.int .i64 0, .int .i64 0] 142)).alloc (.cells #[.int .i64 0, .int .i64 0] 142)
  have q4 := (C2.new ((w.alloc (.cells (ycells x) 146)).alloc (.cells #[.slice A k c] 137)) 142 (.int .i64 0) (.int .i64 0)).alloc (.cells #[.int .i64 0, .int .i64 0] 142)
  have q5 := C2.new (((w.alloc (.cells (ycells x) 146)).alloc (.cells #[.slice A k c] 137)).alloc (.cells #[.int .i64 0, .int .i64 0] 142)) 142 (.int .i64 0) (.int .i64 0)
  rw [e1] at q3
  rw [e2] at q4
  rw [e3] at q5
  have hl1 := hl.below hb
  have HB := Lib.hid hb
  have HC := Lib.hid hc
  have HF := Lib.hid (And.intro h (And.intro hF hAg))
  have HGW := Lib.hid (show ∀ g o, A = some ⟨g, o, none⟩ → g < w.heap.size from fun g o e => by
    obtain ⟨g', o', e', hg', _⟩ := hl.head
    rw [e] at e'
    cases e'
    exact hg')
  clear e1 e2 e3 hb hc hl hk hs h hF hAg
  go_enter Tryz.func124, Tryz.ntmps124
  go_upto_region 2 with fail
  change Code.wp _ _ _ _ ((((w.alloc (.cells (ycells x) 146)).alloc (.cells #[.slice A k c] 137)).alloc (.cells #[.int .i64 0, .int .i64 0] 142)).alloc (.cells #[.int .i64 0, .int .i64 0] 142))
  generalize World.alloc (World.alloc (World.alloc (w.alloc _) _) _) _ = W1 at q2 q3 q4 q5 HB hl1 ⊢
  obtain ⟨z2, hz2⟩ : ∃ z, z = w.heap.size := ⟨_, rfl⟩
  obtain ⟨z3, hz3⟩ : ∃ z, z = w.heap.size + 1 := ⟨_, rfl⟩
  obtain ⟨z4, hz4⟩ : ∃ z, z = w.heap.size + 1 + 1 := ⟨_, rfl⟩
  obtain ⟨z5, hz5⟩ : ∃ z, z = w.heap.size + 1 + 1 + 1 := ⟨_, rfl⟩
  have HZ := Lib.hid (show z2 = w.heap.size ∧ z3 = w.heap.size + 1 ∧ z4 = w.heap.size + 2 ∧ z5 = w.heap.size + 3 from ⟨hz2, hz3, hz4, hz5⟩)
  rw [← hz5] at q5
  rw [← hz4] at q4
  rw [← hz3] at q3
  rw [← hz2] at q2
  rw [← hz5, ← hz4, ← hz3, ← hz2]
  clear hz2 hz3 hz4 hz5
  have x3 := q3.c0
  have hk0 : ¬ (k : Int) = 0 := by have := HK.out; omega
  have hk1 : (0 : Int) < (k : Int) := by have := HK.out; omega
  have hk2 : 0 < k := by have := HK.out; omega
  have hk3 : ¬ k = 0 := by have := HK.out; omega
  obtain ⟨g, o, rfl, hg, hrow⟩ := hl1.head
  go_upto_region 4 with fail
  have hgw : g < w.heap.size := HGW.out g o rfl
  have hH := (Rl.mk q2 q3 hrow : Rl W1 z2 z3 g o k c x n)
  clear x3 q2 q3 hrow hl1 hg
  rw [show ((k : Int) == 0) = false from by simpa using hk0]
  go_cut [6] from 12 to 17 (fun s6 wc => ∃ z6, s6 = .pointer (some ⟨z6, 0, none⟩) ∧ Rl wc z2 z3 g o k c x n ∧ C2 wc z4 142 (.int .i64 0) (.int .i64 0) ∧ C2 wc z5 142 (.int .i64 0) (.int .i64 0) ∧ C1 wc z6 3 (.int .i64 (s : Nat)) ∧ z5 < z6 ∧ Below w.heap.size w wc)
  case first =>
    have C0 := fun (W' : World) (h : Rl W' z2 z3 g o k c x n) => h.lb.c0
    have K0 := fun (W' : World) (h : Rl W' z2 z3 g o k c x n) => h.way.way.2.2.2.1
    have K1 := fun (W' : World) (h : Rl W' z2 z3 g o k c x n) => h.way.way.2.2.2.2.1
    have K2 := fun (W' : World) (h : Rl W' z2 z3 g o k c x n) => h.way.way.2.2.2.2.2.1
    refine wp_region_noPanic ?_
    refine wp_region_held_drew (S := fun W' => Rl W' z2 z3 g o k c x n) (by kernel_rfl) (hH.kp (Kp.of_below (Below.refl _ W1).drew (fun _ => False)) (fun h => h) (fun h => h) (fun h => h)) (fun hH => ?_)
    have q4' := q4.drew
    have q5' := q5.drew
    have HB' := Lib.hid (HB.out.trans ((Below.refl _ W1).drew.mono HB.out.size))
    clear q4 q5 HB
    generalize W1.drew = Wc at hH q4' q5' HB' ⊢
    refine tkH ?_ 0 hH ?_ ?_; rotate_left
    · intro W' hS; go_simp; with_reducible rfl
    simp only [tkr]
    refine tkH ?_ 1 hH ?_ ?_; rotate_left
    · intro W' hS; go_simp; with_reducible rfl
    simp only [tkr]
    refine wpAnyH_take (i := 2) (v := nagg n) rfl (by kernel_rfl) (by kernel_rfl) (by kernel_rfl) (fun _ _ _ h => h) (Or.inl ⟨by rfl, fun W' hS => exec_row rfl rfl (Rl.row hS)⟩) hH ?_
    simp only [Act.put, List.setIfInBounds_toArray, List.set_cons_zero, List.set_cons_succ, List.getElem_toArray, List.getElem_cons_zero, List.getElem_cons_succ]
    refine tkH ?_ 3 hH ?_ ?_; rotate_left
    · intro W' hS; go_simp; with_reducible rfl
    simp only [tkr]
    refine tkH ?_ 4 hH ?_ ?_; rotate_left
    · intro W' hS; go_simp; with_reducible rfl
    simp only [tkr]
    refine wpAnyH_ready (rs := [5, 6]) (by kernel_rfl) (by simp) ?_
    refine AllReadyH.cons rfl (fun K hK => ?_) (AllReadyH.cons rfl (fun K hK => ?_) (AllReadyH.nil))
    · go_simp
      have HS5 := Lib.hid (nside n x.key Wc)
      rw [← HS.out.1] at HS5
      refine HS5.out.mono ?_
      rintro e Wn ⟨rfl, hbn⟩
      have hH2 := hH.kp (Kp.of_below hbn (fun _ => False)) (fun h => h) (fun h => h) (fun h => h)
      replace q4' := q4'.below hbn
      replace q5' := q5'.below hbn
      try replace q6 := q6.below hbn
      replace HB' := Lib.hid (HB'.out.trans (hbn.mono HB'.out.size))
      simp only
      refine hK.out _ _ hH2 (fun hH => ?_)
      clear hK K hH2 hbn HS5
      rename World => Wc
      refine rdH 6 rfl (fun K hK => ?_)
      go_simp
      have q6 := C1.new Wc 3 (.int .i64 0)
      have hz6 : z5 < Wc.heap.size := q5'.lt
      have hbn : Below Wc.heap.size Wc (Wc.alloc (.cells #[.int .i64 0] 3)) := (Below.refl _ Wc).alloc (Nat.le_refl _) _
      have hH2 := hH.kp (Kp.of_below hbn (fun _ => False)) (fun h => h) (fun h => h) (fun h => h)
      replace q4' := q4'.below hbn
      replace q5' := q5'.below hbn
      replace HB' := Lib.hid (HB'.out.trans (hbn.mono HB'.out.size))
      refine hK.out _ _ hH2 (fun hH => ?_)
      clear hK K hH2 hbn
      generalize World.alloc _ _ = Wn at q4' q5' q6 HB' hH ⊢
      generalize Wc.heap.size = z6 at q6 hz6 ⊢
      rename World => Wc
      refine rdH 7 rfl (fun K hK => ?_)
      obtain ⟨c0, f0⟩ := q6.all
      go_simp
      clear c0 f0
      have hz4 : w.heap.size ≤ z5 ∧ z4 < z5 ∧ z3 < z5 ∧ z2 < z5 := by have := HZ.out; omega
      have kz : Kp (fun q => q = z6) Wc (Wc.setCell ⟨z6, 0, none⟩ (.int .i64 (s : Nat))) := (Kp.refl (fun q => q = z6) Wc).setCell (.inl rfl) _
      have hH2 := hH.kp kz (by omega) (by omega) (by omega)
      replace q4' := q4'.kp kz (by omega)
      replace q5' := q5'.kp kz (by omega)
      replace q6 := q6.set (.int .i64 (s : Nat))
      replace HB' := Lib.hid (HB'.out.setCell (p := ⟨z6, 0, none⟩) (show w.heap.size ≤ z6 by omega) (.int .i64 (s : Nat)))
      refine hK.out _ _ hH2 (fun hH => ?_)
      clear hK K hH2 kz
      refine wpAnyH_done (by kernel_rfl) ?_ _
      refine NoPanic.normal ?_
      clear C0 K0 K1 K2
      go_wp2_with fail
      go_meet
      exact ⟨z6, rfl, hH, q4', q5', q6, hz6, HB'.out⟩
    · go_simp
      have q6 := C1.new Wc 3 (.int .i64 0)
      have hz6 : z5 < Wc.heap.size := q5'.lt
      have hbn : Below Wc.heap.size Wc (Wc.alloc (.cells #[.int .i64 0] 3)) := (Below.refl _ Wc).alloc (Nat.le_refl _) _
      have hH2 := hH.kp (Kp.of_below hbn (fun _ => False)) (fun h => h) (fun h => h) (fun h => h)
      replace q4' := q4'.below hbn
      replace q5' := q5'.below hbn
      replace HB' := Lib.hid (HB'.out.trans (hbn.mono HB'.out.size))
      refine hK.out _ _ hH2 (fun hH => ?_)
      clear hK K hH2 hbn
      generalize World.alloc _ _ = Wn at q4' q5' q6 HB' hH ⊢
      generalize Wc.heap.size = z6 at q6 hz6 ⊢
      rename World => Wc
      refine rdH 5 rfl (fun K hK => ?_)
      go_simp
      have HS5 := Lib.hid (nside n x.key Wc)
      rw [← HS.out.1] at HS5
      refine HS5.out.mono ?_
      rintro e Wn ⟨rfl, hbn⟩
      have hH2 := hH.kp (Kp.of_below hbn (fun _ => False)) (fun h => h) (fun h => h) (fun h => h)
      replace q4' := q4'.below hbn
      replace q5' := q5'.below hbn
      try replace q6 := q6.below hbn
      replace HB' := Lib.hid (HB'.out.trans (hbn.mono HB'.out.size))
      simp only
      refine hK.out _ _ hH2 (fun hH => ?_)
      clear hK K hH2 hbn HS5
      rename World => Wc
      refine rdH 7 rfl (fun K hK => ?_)
      obtain ⟨c0, f0⟩ := q6.all
      go_simp
      clear c0 f0
      have hz4 : w.heap.size ≤ z5 ∧ z4 < z5 ∧ z3 < z5 ∧ z2 < z5 := by have := HZ.out; omega
      have kz : Kp (fun q => q = z6) Wc (Wc.setCell ⟨z6, 0, none⟩ (.int .i64 (s : Nat))) := (Kp.refl (fun q => q = z6) Wc).setCell (.inl rfl) _
      have hH2 := hH.kp kz (by omega) (by omega) (by omega)
      replace q4' := q4'.kp kz (by omega)
      replace q5' := q5'.kp kz (by omega)
      replace q6 := q6.set (.int .i64 (s : Nat))
      replace HB' := Lib.hid (HB'.out.setCell (p := ⟨z6, 0, none⟩) (show w.heap.size ≤ z6 by omega) (.int .i64 (s : Nat)))
      refine hK.out _ _ hH2 (fun hH => ?_)
      clear hK K hH2 kz
      refine wpAnyH_done (by kernel_rfl) ?_ _
      refine NoPanic.normal ?_
      clear C0 K0 K1 K2
      go_wp2_with fail
      go_meet
      exact ⟨z6, rfl, hH, q4', q5', q6, hz6, HB'.out⟩
  case rest =>
    obtain ⟨z6, rfl, hH, q4, q5, q6, hz6, hbw⟩ := hcut
    clear HGW HB
    have HB := Lib.hid hbw
    clear hbw
    go_wp2_with fail
    have C0 := fun (W' : World) (h : Rl W' z2 z3 g o k c x n) => h.lb.c0
    refine wp_region_noPanic ?_
    refine wp_region_held_drew (S := fun W' => Rl W' z2 z3 g o k c x n) (by kernel_rfl) (hH.kp (Kp.of_below (Below.refl _ wc).drew (fun _ => False)) (fun h => h) (fun h => h) (fun h => h)) (fun hH => ?_)
    have hb5 := HB.out.trans ((Below.refl _ wc).drew.mono HB.out.size)
    have HC5 := Lib.hid (HC.out wc.drew z2 z3 z5 z6 hb5 (by have := HZ.out; omega) (by have := HZ.out; omega) (by have := HZ.out; omega) (by have := HZ.out; omega) (by have := HZ.out; omega) (by have := HZ.out; omega) hz6 hH.way hH.lb q5.drew q6.drew)
    have HQ := Lib.hid (show C2 wc.drew z4 142 (.int .i64 0) (.int .i64 0) ∧ Below w.heap.size w wc.drew ∧ z5 < wc.drew.heap.size ∧ z6 < wc.drew.heap.size from ⟨q4.drew, hb5, q5.drew.lt, q6.drew.lt⟩)
    have Q6 := Lib.hid q6.drew
    clear q4 q5 q6 HC hb5 HB
    generalize wc.drew = Wc at hH HC5 HQ Q6 ⊢
    refine wpAnyH_take (i := 0) (v := yagg x) rfl (by kernel_rfl) (by kernel_rfl) (by kernel_rfl) (fun _ _ _ h => h) (Or.inl ⟨by rfl, fun W' hS => exec_way rfl rfl (Rl.way hS)⟩) hH ?_
    simp only [Act.put, List.setIfInBounds_toArray, List.set_cons_zero, List.set_cons_succ, List.getElem_toArray, List.getElem_cons_zero, List.getElem_cons_succ]
    refine tkH ?_ 1 hH ?_ ?_; rotate_left
    · intro W' hS; go_simp; with_reducible rfl
    simp only [tkr]
    refine tkH ?_ 2 hH ?_ ?_; rotate_left
    · intro W' hS; go_simp; with_reducible rfl
    simp only [tkr]
    refine wpAnyH_take (i := 3) (v := nagg n) rfl (by kernel_rfl) (by kernel_rfl) (by kernel_rfl) (fun _ _ _ h => h) (Or.inl ⟨by rfl, fun W' hS => exec_row rfl rfl (Rl.row hS)⟩) hH ?_
    simp only [Act.put, List.setIfInBounds_toArray, List.set_cons_zero, List.set_cons_succ, List.getElem_toArray, List.getElem_cons_zero, List.getElem_cons_succ]
    refine wpAnyH_take (i := 4) (v := .func (.func 161) #[] #[.pointer (some ⟨z2, 0, none⟩), .pointer (some ⟨z3, 0, none⟩), .pointer (some ⟨z5, 0, none⟩), .pointer (some ⟨z6, 0, none⟩)]) rfl (by kernel_rfl) (by kernel_rfl) (by kernel_rfl) (fun _ _ _ h => h) (Or.inl ⟨by rfl, fun W' hS => by kernel_rfl⟩) hH ?_
    simp only [Act.put, List.setIfInBounds_toArray, List.set_cons_zero, List.set_cons_succ, List.getElem_toArray, List.getElem_cons_zero, List.getElem_cons_succ]
    refine rdH 5 rfl (fun K hK => ?_)
    clear C0
    go_simp
    refine HC5.out.mono ?_
    rintro e Wn ⟨m, p0, p1, M', rfl, hQ, hc5, hst⟩
    have hFz : ∀ z, w.heap.size ≤ z → ¬ F z := fun z h1 hf => by have := HF.out.2.1 z hf; omega
    have hH2 := hH.kp hst.kp (fun hz => hz.elim (hFz _ (by have := HZ.out; omega)) (fun e => by have := HZ.out; omega)) (fun hz => hz.elim (hFz _ (by have := HZ.out; omega)) (fun e => by have := HZ.out; omega)) (fun hz => hz.elim (HF.out.2.2 _ rfl) (fun e => by have := HZ.out; simp only at e; omega))
    have q4 := HQ.out.1.kp hst.kp (fun hz => hz.elim (hFz _ (by have := HZ.out; omega)) (fun e => by have := HZ.out; omega))
    have q6 := Q6.out.kp hst.kp (fun hz => hz.elim (hFz _ (by have := HZ.out; omega)) (fun e => by omega))
    have HR := Lib.hid (And.intro hQ (And.intro hst (show Wc.heap.size ≤ Wn.heap.size from hst.kp.size)))
    simp only
    refine hK.out _ _ hH2 (fun hH => ?_)
    clear hK K hH2 hQ hst HC5 Q6 hFz
    refine tkH ?_ 6 hH ?_ ?_; rotate_left
    · intro W' hS; go_simp; with_reducible rfl
    simp only [tkr]
    refine wpAnyH_done (by kernel_rfl) ?_ _
    refine NoPanic.normal ?_
    clear hH
    have hx6 := q6.c0
    obtain ⟨c50, c51, f50, f51⟩ := hc5.all
    have hfin : ∀ W', Kp (fun z => z = z4 ∨ z = z5) Wn W' → Stp w W' x.b most M' F := fun W' hk => by
      obtain ⟨_, hst, hsz⟩ := HR.out
      obtain ⟨_, hbw, hl5, hl6⟩ := HQ.out
      have hz := HZ.out
      have hFl := HF.out.2.1
      have nz : ∀ z, z = z4 ∨ z = z5 → w.heap.size ≤ z ∧ ¬ Fn F Wc Wn z := fun z e => ⟨by omega, fun hf => hf.elim (fun hf => by have := hFl z hf; omega) (fun hf => by omega)⟩
      refine ⟨(hst.ar.kp hk (fun z hz' e => (nz z e).2 hz')).mono (fun z hz' => hz'.imp id (fun hz' => ⟨by have := hbw.size; omega, by have := hk.size; omega⟩)) (fun z hz' => hz'.elim (fun hz' => by have := hFl z hz'; have := hbw.size; have := hk.size; omega) (fun hz' => hz'.2)), ?_⟩
      exact ((Kp.of_below hbw F).trans hst.kp (fun z hz' => hz'.elim .inl (fun e => .inr (by omega)))).trans hk (fun z e => .inr (nz z e).1)
    rcases HS.out.2 with rfl | rfl
    · go_upto_region 7 with fail
      have q5 := hc5.set1 (.int .i64 (m : Nat))
      have q4' := q4.other (g := z5) (o := 1) (by have := HZ.out; omega) (.int .i64 (m : Nat))
      have kz : Kp (fun z => z = z4 ∨ z = z5) Wn (Wn.setCell ⟨z5, 1, none⟩ (.int .i64 (m : Nat))) := (Kp.refl (fun z => z = z4 ∨ z = z5) Wn).setCell (.inl (.inr rfl)) _
      clear c50 c51 f50 f51 hc5 q4 q6 hx6
      generalize World.setCell Wn _ _ = W7 at q5 q4' kz ⊢
      obtain ⟨c50, c51, _⟩ := q5.all
      obtain ⟨c40, c41, f40, f41⟩ := q4'.all
      go_wp2_with fail
      have q9 := (q4'.set0 (.int .i64 (p0 : Nat))).set1 (.int .i64 (m : Nat))
      have kz2 : Kp (fun z => z = z4 ∨ z = z5) Wn ((W7.setCell ⟨z4, 0, none⟩ (.int .i64 (p0 : Nat))).setCell ⟨z4, 1, none⟩ (.int .i64 (m : Nat))) := (kz.setCell (.inl (.inl rfl)) _).setCell (.inl (.inl rfl)) _
      clear c50 c51 c40 c41 f40 f41
      obtain ⟨d0, d1, _⟩ := q9.all
      exact bodyPost_ret (v := .agg #[.int .i64 (p0 : Nat), .int .i64 (m : Nat)]) (by simp [results, Tryz.results124, go_sem, d0, d1]) rfl (by first | exact ⟨m, p0, rfl, p1, M', HR.out.1, hfin _ kz2⟩ | exact ⟨m, p0, p1, rfl, M', HR.out.1, hfin _ kz2⟩ | exact ⟨m, p1, rfl, p0, M', HR.out.1, hfin _ kz2⟩ | exact ⟨m, p0, p1, M', rfl, HR.out.1, hfin _ kz2⟩)
    · go_upto_region 7 with fail
      have q5 := hc5.set0 (.int .i64 (m : Nat))
      have q4' := q4.other (g := z5) (o := 0) (by have := HZ.out; omega) (.int .i64 (m : Nat))
      have kz : Kp (fun z => z = z4 ∨ z = z5) Wn (Wn.setCell ⟨z5, 0, none⟩ (.int .i64 (m : Nat))) := (Kp.refl (fun z => z = z4 ∨ z = z5) Wn).setCell (.inl (.inr rfl)) _
      clear c50 c51 f50 f51 hc5 q4 q6 hx6
      generalize World.setCell Wn _ _ = W7 at q5 q4' kz ⊢
      obtain ⟨c50, c51, _⟩ := q5.all
      obtain ⟨c40, c41, f40, f41⟩ := q4'.all
      go_wp2_with fail
      have q9 := (q4'.set0 (.int .i64 (m : Nat))).set1 (.int .i64 (p1 : Nat))
      have kz2 : Kp (fun z => z = z4 ∨ z = z5) Wn ((W7.setCell ⟨z4, 0, none⟩ (.int .i64 (m : Nat))).setCell ⟨z4, 1, none⟩ (.int .i64 (p1 : Nat))) := (kz.setCell (.inl (.inl rfl)) _).setCell (.inl (.inl rfl)) _
      clear c50 c51 c40 c41 f40 f41
      obtain ⟨d0, d1, _⟩ := q9.all
      exact bodyPost_ret (v := .agg #[.int .i64 (m : Nat), .int .i64 (p1 : Nat)]) (by simp [results, Tryz.results124, go_sem, d0, d1]) rfl (by first | exact ⟨m, p0, rfl, p1, M', HR.out.1, hfin _ kz2⟩ | exact ⟨m, p0, p1, rfl, M', HR.out.1, hfin _ kz2⟩ | exact ⟨m, p1, rfl, p0, M', HR.out.1, hfin _ kz2⟩ | exact ⟨m, p0, p1, M', rfl, HR.out.1, hfin _ kz2⟩)
end
end Go.Proofs.YtghbbpbhbinioaaGreat

namespace Go.Proofs.YtghbbpbhbinioaaGreat
set_option maxRecDepth 100000
set_option linter.unusedSimpArgs false
set_option linter.unusedVariables false
open Go.RowKit
theorem Kp.wide {F G : Nat → Prop} {w w' : World} (h : Kp F w w') (hG : ∀ q, F q → G q) : Kp G w w' := ⟨h.os, h.tape, h.output, h.size, fun q hq hn => h.block q hq (fun hf => hn (hG q hf))⟩
structure Rq (W : World) (z2 z3 g o k c : Nat) (x : Yv) : Prop where
  way : BC W z2 146 (ycells x)
  lb : C1 W z3 137 (.slice (some ⟨g, o, none⟩) k c)
theorem Rq.kp {W W' : World} {z2 z3 g o k c : Nat} {x : Yv} {G : Nat → Prop} (h : Rq W z2 z3 g o k c x) (hk : Kp G W W') (h2 : ¬ G z2) (h3 : ¬ G z3) : Rq W' z2 z3 g o k c x := ⟨h.way.kp hk h2, h.lb.kp hk h3⟩
section
variable {most : Nat} {F1 : Nat → Prop}
set_option maxHeartbeats 8000000 in
theorem vpartC (x : Yv) (n : Nv) (l : List Nv) (g o c z2 z3 z5 z6 zn s : Nat) (Q : Nat → Nat → Cells → Prop) (w : World) (hF1 : ∀ z, F1 z → z < w.heap.size) (hr : Rq w z2 z3 g o (l.length + 1) c x) (h5 : C2 w z5 142 (.int .i64 0) (.int .i64 0)) (h6 : C1 w z6 3 (.int .i64 (s : Nat))) (hnb : BC w zn 144 (ncells n)) (hs : s = 0 ∨ s = 1) (hnz : z2 ≠ z5 ∧ z3 ≠ z5 ∧ z5 ≠ z6 ∧ z5 ≠ zn ∧ z6 ≠ zn) (nF : ¬ F1 z2 ∧ ¬ F1 z3 ∧ ¬ F1 z5 ∧ ¬ F1 z6 ∧ ¬ F1 zn) (hcap : l.length + 1 ≤ c) (hn : l.length ≤ 1000000)
    (hc : ∀ W A1 c1, Below w.heap.size w W → (A1 = some ⟨g, o + 14, none⟩ ∨ l.length = 0 ∧ A1 = some ⟨g, o, none⟩) → l.length ≤ c1 → Calls Tryz.prog 124 #[yagg x, .slice A1 l.length c1] W fun e W' => ∃ (q0 q1 : Nat) (M2 : Cells), e = .returned (.agg #[.int .i64 (q0 : Nat), .int .i64 (q1 : Nat)]) ∧ Q q0 q1 M2 ∧ Stp W W' x.b most M2 F1) :
    Calls Tryz.prog 161 #[.pointer (some ⟨zn, 0, none⟩), .pointer (some ⟨z2, 0, none⟩), .pointer (some ⟨z3, 0, none⟩), .pointer (some ⟨z5, 0, none⟩), .pointer (some ⟨z6, 0, none⟩)] w fun e w' => ∃ (r : Value) (q0 q1 : Nat) (M2 : Cells) (F2 : Nat → Prop), e = .returned r ∧ Q q0 q1 M2 ∧ C2 w' z5 142 (.int .i64 (q0 : Nat)) (.int .i64 (q1 : Nat)) ∧ BC w' zn 144 (ncells (setK n s (if s = 0 then q1 else q0))) ∧ RnY w w' x.b most M2 F1 (fun z => z = z5 ∨ z = zn) F2 := by
  obtain ⟨k, hk⟩ : ∃ k, k = l.length + 1 := ⟨_, rfl⟩
  rw [← hk] at hr hcap
  have HK := Lib.hid (show k - 1 = l.length from by omega)
  have HNZ := Lib.hid (And.intro hnz (And.intro nF hF1))
  have HL := Lib.hid (show z5 < w.heap.size ∧ z6 < w.heap.size ∧ zn < w.heap.size from ⟨h5.lt, h6.lt, hnb.lt⟩)
  have HC := Lib.hid hc
  have HS := Lib.hid hs
  have H0 := Lib.hid (And.intro h5 (And.intro h6 hnb))
  have hk1 : (1 : Int) ≤ (k : Int) := by omega
  have hk2 : 1 ≤ k := by omega
  clear hk hc hnz nF hF1 hs h5 h6 hnb
  go_enter Tryz.func161, Tryz.ntmps161
  by_cases hc1 : c = 1
  · obtain rfl : l = [] := List.eq_nil_of_length_eq_zero (by have := HK.out; omega)
    obtain rfl : k = 1 := by omega
    subst hc1
    have C0 := fun (W' : World) (h : Rq W' z2 z3 g o 1 1 x) => h.lb.c0
    go_wp2_with fail
    refine wp_region_noPanic ?_
    refine wp_region_held_drew (S := fun W' => Rq W' z2 z3 g o 1 1 x) (by kernel_rfl) (hr.kp (Kp.of_below (Below.refl _ w).drew (fun _ => False)) (fun h => h) (fun h => h)) (fun hH => ?_)
    have HB := Lib.hid (show Below w.heap.size w w.drew from (Below.refl _ w).drew)
    have q5 := H0.out.1.drew
    have q6 := H0.out.2.1.drew
    have qn := H0.out.2.2.drew
    clear hr H0
    generalize w.drew = Wc at hH HB q5 q6 qn ⊢
    refine wpAnyH_take (i := 0) (v := yagg x) rfl (by kernel_rfl) (by kernel_rfl) (by kernel_rfl) (fun _ _ _ h => h) (Or.inl ⟨by rfl, fun W' hS => exec_way rfl rfl (Rq.way hS)⟩) hH ?_
    simp only [Act.put, List.setIfInBounds_toArray, List.set_cons_zero, List.set_cons_succ, List.getElem_toArray, List.getElem_cons_zero, List.getElem_cons_succ]
    refine tkH ?_ 1 hH ?_ ?_; rotate_left
    · intro W' hS; go_simp; with_reducible rfl
    simp only [tkr]
    refine tkH ?_ 2 hH ?_ ?_; rotate_left
    · intro W' hS; go_simp; with_reducible rfl
    simp only [tkr]
    refine rdH 3 rfl (fun K hK => ?_)
    go_simp
    skip
    refine (HC.out Wc (some ⟨g, o, none⟩) 0 HB.out (.inr ⟨rfl, rfl⟩) (Nat.le_refl 0)).mono ?_
    rintro e Wp ⟨q0, q1, M2, rfl, hQ, hst⟩
    have HR := Lib.hid (And.intro hQ hst)
    have nf : ∀ z, z < w.heap.size → ¬ F1 z → ¬ F1 z := fun _ _ h => h
    have hH2 := hH.kp hst.kp HNZ.out.2.1.1 HNZ.out.2.1.2.1
    replace q5 := q5.kp hst.kp HNZ.out.2.1.2.2.1
    replace q6 := q6.kp hst.kp HNZ.out.2.1.2.2.2.1
    replace qn := qn.kp hst.kp HNZ.out.2.1.2.2.2.2
    simp only
    refine hK.out _ _ hH2 (fun hH => ?_)
    clear hK K hH2 hQ hst nf
    refine rdH 4 rfl (fun K hK => ?_)
    obtain ⟨c0, c1, f0, f1⟩ := q5.all
    go_simp
    clear c0 c1 f0 f1
    have kz : Kp (fun z => z = z5) Wp ((Wp.setCell ⟨z5, 0, none⟩ (.int .i64 (q0 : Nat))).setCell ⟨z5, 1, none⟩ (.int .i64 (q1 : Nat))) := ((Kp.refl (fun z => z = z5) Wp).setCell (.inl rfl) _).setCell (.inl rfl) _
    have hH2 := hH.kp kz HNZ.out.1.1 HNZ.out.1.2.1
    replace q5 := (q5.set0 (.int .i64 (q0 : Nat))).set1 (.int .i64 (q1 : Nat))
    replace q6 := q6.kp kz (fun e => HNZ.out.1.2.2.1 e.symm)
    replace qn := qn.kp kz (fun e => HNZ.out.1.2.2.2.1 e.symm)
    refine hK.out _ _ hH2 (fun hH => ?_)
    clear hK K hH2
    generalize World.setCell _ _ _ = W2 at kz q5 q6 qn hH ⊢
    have KZ := Lib.hid kz
    clear kz
    refine wpAnyH_done (by kernel_rfl) ?_ _
    refine NoPanic.normal ?_
    clear C0 hH
    rcases HS.out with rfl | rfl
    · have x6 := q6.c0
      obtain ⟨c0, c1, _⟩ := q5.all
      have hn11 := qn.node.2.2.2.2.2.2.2.2.2.2.2.1
      have fz := qn.fz 11
      have w1 : IntKind.i64.wrap 1 = 1 := by decide
      have w0 : IntKind.i64.wrap 0 = 0 := by decide
      go_wp2_with fail
      go_still_tail 9, (by kernel_rfl)
      change wpList _ _ _ _ _ W2.drew
      clear x6 c0 c1 hn11 fz
      have q5' := q5.drew
      have qn' := qn.drew
      have KZ' := Lib.hid (show Kp (fun z => z = z5) Wp W2.drew from KZ.out.trans (Kp.of_below (Below.refl _ W2).drew (fun _ => False)) (fun _ h => h.elim))
      clear q5 q6 qn KZ
      generalize W2.drew = W3 at q5' qn' KZ' ⊢
      have hn11 := qn'.node.2.2.2.2.2.2.2.2.2.2.2.1
      have fz := qn'.fz 11
      go_wp2_with fail
      clear hn11 fz
      have kz4 : Kp (fun z => z = z5 ∨ z = zn) Wp (W3.setCell ⟨zn, 11, none⟩ (.int .i64 (q1 : Nat))) := (KZ'.out.wide (fun z e => .inl e) : Kp (fun z => z = z5 ∨ z = zn) Wp W3).setCell (.inl (.inr rfl)) _
      have q9 := qn'.setK (s := 0) (by decide) q1
      have h5 := q5'.kp (F := fun z => z = zn) ((Kp.refl (fun z => z = zn) W3).setCell (b := zn) (o := 11) (.inl rfl) (.int .i64 (q1 : Nat))) HNZ.out.1.2.2.2.1
      have hry : RnY w (W3.setCell ⟨zn, 11, none⟩ (.int .i64 (q1 : Nat))) x.b most M2 F1 (fun z => z = z5 ∨ z = zn) (Fn F1 Wc Wp) := by
        obtain ⟨_, hst⟩ := HR.out
        obtain ⟨_, ⟨_, _, f5, _, fn⟩, hFl⟩ := HNZ.out
        have hl := HL.out
        have hwc := HB.out.size
        have nz : ∀ z, z = z5 ∨ z = zn → ¬ Fn F1 Wc Wp z := fun z e hf => by
          rcases e with rfl | rfl
          · exact hf.elim f5 (fun hf => by omega)
          · exact hf.elim fn (fun hf => by omega)
        exact ⟨hst.ar.kp kz4 (fun z hz e => nz z e hz), (((Kp.of_below HB.out F1).trans hst.kp (fun _ => .inl)).fx (fun z hz => .inl hz) : Kp (FX F1 (fun z => z = z5 ∨ z = zn)) w Wp).trans kz4 (fun z e => .inl (.inr e)), fun z hz => hz.imp id (fun hz => by omega)⟩
      go_end0
      first
        | exact ⟨_, q0, q1, M2, Fn F1 Wc Wp, rfl, HR.out.1, h5, q9, hry⟩
        | exact ⟨⟨_, rfl⟩, q0, q1, ⟨M2, HR.out.1, h5, q9, _, hry⟩⟩
    · have x6 := q6.c0
      obtain ⟨c0, c1, _⟩ := q5.all
      have hn12 := qn.node.2.2.2.2.2.2.2.2.2.2.2.2.1
      have fz := qn.fz 12
      have w1 : IntKind.i64.wrap 1 = 1 := by decide
      have w0 : IntKind.i64.wrap 0 = 0 := by decide
      go_wp2_with fail
      go_still_tail 9, (by kernel_rfl)
      change wpList _ _ _ _ _ W2.drew
      clear x6 c0 c1 hn12 fz
      have q5' := q5.drew
      have qn' := qn.drew
      have KZ' := Lib.hid (show Kp (fun z => z = z5) Wp W2.drew from KZ.out.trans (Kp.of_below (Below.refl _ W2).drew (fun _ => False)) (fun _ h => h.elim))
      clear q5 q6 qn KZ
      generalize W2.drew = W3 at q5' qn' KZ' ⊢
      have hn12 := qn'.node.2.2.2.2.2.2.2.2.2.2.2.2.1
      have fz := qn'.fz 12
      go_wp2_with fail
      clear hn12 fz
      have kz4 : Kp (fun z => z = z5 ∨ z = zn) Wp (W3.setCell ⟨zn, 12, none⟩ (.int .i64 (q0 : Nat))) := (KZ'.out.wide (fun z e => .inl e) : Kp (fun z => z = z5 ∨ z = zn) Wp W3).setCell (.inl (.inr rfl)) _
      have q9 := qn'.setK (s := 1) (by decide) q0
      have h5 := q5'.kp (F := fun z => z = zn) ((Kp.refl (fun z => z = zn) W3).setCell (b := zn) (o := 12) (.inl rfl) (.int .i64 (q0 : Nat))) HNZ.out.1.2.2.2.1
      have hry : RnY w (W3.setCell ⟨zn, 12, none⟩ (.int .i64 (q0 : Nat))) x.b most M2 F1 (fun z => z = z5 ∨ z = zn) (Fn F1 Wc Wp) := by
        obtain ⟨_, hst⟩ := HR.out
        obtain ⟨_, ⟨_, _, f5, _, fn⟩, hFl⟩ := HNZ.out
        have hl := HL.out
        have hwc := HB.out.size
        have nz : ∀ z, z = z5 ∨ z = zn → ¬ Fn F1 Wc Wp z := fun z e hf => by
          rcases e with rfl | rfl
          · exact hf.elim f5 (fun hf => by omega)
          · exact hf.elim fn (fun hf => by omega)
        exact ⟨hst.ar.kp kz4 (fun z hz e => nz z e hz), (((Kp.of_below HB.out F1).trans hst.kp (fun _ => .inl)).fx (fun z hz => .inl hz) : Kp (FX F1 (fun z => z = z5 ∨ z = zn)) w Wp).trans kz4 (fun z e => .inl (.inr e)), fun z hz => hz.imp id (fun hz => by omega)⟩
      go_end0
      first
        | exact ⟨_, q0, q1, M2, Fn F1 Wc Wp, rfl, HR.out.1, h5, q9, hry⟩
        | exact ⟨⟨_, rfl⟩, q0, q1, ⟨M2, HR.out.1, h5, q9, _, hry⟩⟩
  · have HCAP := Lib.hid hcap
    have C0 := fun (W' : World) (h : Rq W' z2 z3 g o k c x) => h.lb.c0
    go_wp2_with fail
    refine wp_region_noPanic ?_
    refine wp_region_held_drew (S := fun W' => Rq W' z2 z3 g o k c x) (by kernel_rfl) (hr.kp (Kp.of_below (Below.refl _ w).drew (fun _ => False)) (fun h => h) (fun h => h)) (fun hH => ?_)
    have HB := Lib.hid (show Below w.heap.size w w.drew from (Below.refl _ w).drew)
    have q5 := H0.out.1.drew
    have q6 := H0.out.2.1.drew
    have qn := H0.out.2.2.drew
    clear hr H0
    generalize w.drew = Wc at hH HB q5 q6 qn ⊢
    refine wpAnyH_take (i := 0) (v := yagg x) rfl (by kernel_rfl) (by kernel_rfl) (by kernel_rfl) (fun _ _ _ h => h) (Or.inl ⟨by rfl, fun W' hS => exec_way rfl rfl (Rq.way hS)⟩) hH ?_
    simp only [Act.put, List.setIfInBounds_toArray, List.set_cons_zero, List.set_cons_succ, List.getElem_toArray, List.getElem_cons_zero, List.getElem_cons_succ]
    refine tkH ?_ 1 hH ?_ ?_; rotate_left
    · intro W' hS; go_simp; with_reducible rfl
    simp only [tkr]
    refine tkH ?_ 2 hH ?_ ?_; rotate_left
    · intro W' hS; go_simp; with_reducible rfl
    simp only [tkr]
    refine rdH 3 rfl (fun K hK => ?_)
    go_simp
    rw [HK.out]
    refine (HC.out Wc (some ⟨g, o + 14, none⟩) (c - 1) HB.out (.inl rfl) (by have := HK.out; have := HCAP.out; omega)).mono ?_
    rintro e Wp ⟨q0, q1, M2, rfl, hQ, hst⟩
    have HR := Lib.hid (And.intro hQ hst)
    have nf : ∀ z, z < w.heap.size → ¬ F1 z → ¬ F1 z := fun _ _ h => h
    have hH2 := hH.kp hst.kp HNZ.out.2.1.1 HNZ.out.2.1.2.1
    replace q5 := q5.kp hst.kp HNZ.out.2.1.2.2.1
    replace q6 := q6.kp hst.kp HNZ.out.2.1.2.2.2.1
    replace qn := qn.kp hst.kp HNZ.out.2.1.2.2.2.2
    simp only
    refine hK.out _ _ hH2 (fun hH => ?_)
    clear hK K hH2 hQ hst nf
    refine rdH 4 rfl (fun K hK => ?_)
    obtain ⟨c0, c1, f0, f1⟩ := q5.all
    go_simp
    clear c0 c1 f0 f1
    have kz : Kp (fun z => z = z5) Wp ((Wp.setCell ⟨z5, 0, none⟩ (.int .i64 (q0 : Nat))).setCell ⟨z5, 1, none⟩ (.int .i64 (q1 : Nat))) := ((Kp.refl (fun z => z = z5) Wp).setCell (.inl rfl) _).setCell (.inl rfl) _
    have hH2 := hH.kp kz HNZ.out.1.1 HNZ.out.1.2.1
    replace q5 := (q5.set0 (.int .i64 (q0 : Nat))).set1 (.int .i64 (q1 : Nat))
    replace q6 := q6.kp kz (fun e => HNZ.out.1.2.2.1 e.symm)
    replace qn := qn.kp kz (fun e => HNZ.out.1.2.2.2.1 e.symm)
    refine hK.out _ _ hH2 (fun hH => ?_)
    clear hK K hH2
    generalize World.setCell _ _ _ = W2 at kz q5 q6 qn hH ⊢
    have KZ := Lib.hid kz
    clear kz
    refine wpAnyH_done (by kernel_rfl) ?_ _
    refine NoPanic.normal ?_
    clear C0 hH
    rcases HS.out with rfl | rfl
    · have x6 := q6.c0
      obtain ⟨c0, c1, _⟩ := q5.all
      have hn11 := qn.node.2.2.2.2.2.2.2.2.2.2.2.1
      have fz := qn.fz 11
      have w1 : IntKind.i64.wrap 1 = 1 := by decide
      have w0 : IntKind.i64.wrap 0 = 0 := by decide
      go_wp2_with fail
      go_still_tail 9, (by kernel_rfl)
      change wpList _ _ _ _ _ W2.drew
      clear x6 c0 c1 hn11 fz
      have q5' := q5.drew
      have qn' := qn.drew
      have KZ' := Lib.hid (show Kp (fun z => z = z5) Wp W2.drew from KZ.out.trans (Kp.of_below (Below.refl _ W2).drew (fun _ => False)) (fun _ h => h.elim))
      clear q5 q6 qn KZ
      generalize W2.drew = W3 at q5' qn' KZ' ⊢
      have hn11 := qn'.node.2.2.2.2.2.2.2.2.2.2.2.1
      have fz := qn'.fz 11
      go_wp2_with fail
      clear hn11 fz
      have kz4 : Kp (fun z => z = z5 ∨ z = zn) Wp (W3.setCell ⟨zn, 11, none⟩ (.int .i64 (q1 : Nat))) := (KZ'.out.wide (fun z e => .inl e) : Kp (fun z => z = z5 ∨ z = zn) Wp W3).setCell (.inl (.inr rfl)) _
      have q9 := qn'.setK (s := 0) (by decide) q1
      have h5 := q5'.kp (F := fun z => z = zn) ((Kp.refl (fun z => z = zn) W3).setCell (b := zn) (o := 11) (.inl rfl) (.int .i64 (q1 : Nat))) HNZ.out.1.2.2.2.1
      have hry : RnY w (W3.setCell ⟨zn, 11, none⟩ (.int .i64 (q1 : Nat))) x.b most M2 F1 (fun z => z = z5 ∨ z = zn) (Fn F1 Wc Wp) := by
        obtain ⟨_, hst⟩ := HR.out
        obtain ⟨_, ⟨_, _, f5, _, fn⟩, hFl⟩ := HNZ.out
        have hl := HL.out
        have hwc := HB.out.size
        have nz : ∀ z, z = z5 ∨ z = zn → ¬ Fn F1 Wc Wp z := fun z e hf => by
          rcases e with rfl | rfl
          · exact hf.elim f5 (fun hf => by omega)
          · exact hf.elim fn (fun hf => by omega)
        exact ⟨hst.ar.kp kz4 (fun z hz e => nz z e hz), (((Kp.of_below HB.out F1).trans hst.kp (fun _ => .inl)).fx (fun z hz => .inl hz) : Kp (FX F1 (fun z => z = z5 ∨ z = zn)) w Wp).trans kz4 (fun z e => .inl (.inr e)), fun z hz => hz.imp id (fun hz => by omega)⟩
      go_end0
      first
        | exact ⟨_, q0, q1, M2, Fn F1 Wc Wp, rfl, HR.out.1, h5, q9, hry⟩
        | exact ⟨⟨_, rfl⟩, q0, q1, ⟨M2, HR.out.1, h5, q9, _, hry⟩⟩
    · have x6 := q6.c0
      obtain ⟨c0, c1, _⟩ := q5.all
      have hn12 := qn.node.2.2.2.2.2.2.2.2.2.2.2.2.1
      have fz := qn.fz 12
      have w1 : IntKind.i64.wrap 1 = 1 := by decide
      have w0 : IntKind.i64.wrap 0 = 0 := by decide
      go_wp2_with fail
      go_still_tail 9, (by kernel_rfl)
      change wpList _ _ _ _ _ W2.drew
      clear x6 c0 c1 hn12 fz
      have q5' := q5.drew
      have qn' := qn.drew
      have KZ' := Lib.hid (show Kp (fun z => z = z5) Wp W2.drew from KZ.out.trans (Kp.of_below (Below.refl _ W2).drew (fun _ => False)) (fun _ h => h.elim))
      clear q5 q6 qn KZ
      generalize W2.drew = W3 at q5' qn' KZ' ⊢
      have hn12 := qn'.node.2.2.2.2.2.2.2.2.2.2.2.2.1
      have fz := qn'.fz 12
      go_wp2_with fail
      clear hn12 fz
      have kz4 : Kp (fun z => z = z5 ∨ z = zn) Wp (W3.setCell ⟨zn, 12, none⟩ (.int .i64 (q0 : Nat))) := (KZ'.out.wide (fun z e => .inl e) : Kp (fun z => z = z5 ∨ z = zn) Wp W3).setCell (.inl (.inr rfl)) _
      have q9 := qn'.setK (s := 1) (by decide) q0
      have h5 := q5'.kp (F := fun z => z = zn) ((Kp.refl (fun z => z = zn) W3).setCell (b := zn) (o := 12) (.inl rfl) (.int .i64 (q0 : Nat))) HNZ.out.1.2.2.2.1
      have hry : RnY w (W3.setCell ⟨zn, 12, none⟩ (.int .i64 (q0 : Nat))) x.b most M2 F1 (fun z => z = z5 ∨ z = zn) (Fn F1 Wc Wp) := by
        obtain ⟨_, hst⟩ := HR.out
        obtain ⟨_, ⟨_, _, f5, _, fn⟩, hFl⟩ := HNZ.out
        have hl := HL.out
        have hwc := HB.out.size
        have nz : ∀ z, z = z5 ∨ z = zn → ¬ Fn F1 Wc Wp z := fun z e hf => by
          rcases e with rfl | rfl
          · exact hf.elim f5 (fun hf => by omega)
          · exact hf.elim fn (fun hf => by omega)
        exact ⟨hst.ar.kp kz4 (fun z hz e => nz z e hz), (((Kp.of_below HB.out F1).trans hst.kp (fun _ => .inl)).fx (fun z hz => .inl hz) : Kp (FX F1 (fun z => z = z5 ∨ z = zn)) w Wp).trans kz4 (fun z e => .inl (.inr e)), fun z hz => hz.imp id (fun hz => by omega)⟩
      go_end0
      first
        | exact ⟨_, q0, q1, M2, Fn F1 Wc Wp, rfl, HR.out.1, h5, q9, hry⟩
        | exact ⟨⟨_, rfl⟩, q0, q1, ⟨M2, HR.out.1, h5, q9, _, hry⟩⟩
end
end Go.Proofs.YtghbbpbhbinioaaGreat

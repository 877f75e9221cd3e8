/- Several texts in one. -/
import Derived.Test.YtkkfhbcnfknmaaaGreatMg25
import Derived.Test.YtkkfhbcnfknmaaaGreatMg26
import Derived.Test.YtkkfhbcnfknmaaaGreatMg11
import Derived.Test.YtkkfhbcnfknmaaaGreatMg23
set_option linter.unusedSimpArgs false
namespace Go.Proofs.YtkkfhbcnfknmaaaGreat
set_option maxRecDepth 100000
set_option linter.unusedSimpArgs false
set_option linter.unusedVariables false
open Go.RowKit Go.Shelf
abbrev dagg (p : Pr) : Value := .agg #[.int .u8 p.1.1, .int .i64 p.1.2.1, .string p.1.2.2, .int .u8 p.2.1, .int .i64 p.2.2.1, .string p.2.2.2]
set_option maxHeartbeats 1600000 in
theorem lis12 (p : Pr) (w : World) : Calls Tryz.prog 56 #[pagg p, dagg p] w fun e w' => e = .returned (.bool true) ∧ Below w.heap.size w w' := by
  obtain ⟨⟨pk, pn, ps⟩, ⟨vk, vn, vs⟩⟩ := p
  obtain ⟨W0, hW0⟩ : ∃ W0, W0 = (w.alloc (.cells #[.int .u8 pk, .int .i64 pn, .string ps, .int .u8 vk, .int .i64 vn, .string vs] 48)).alloc (.cells #[.int .u8 pk, .int .i64 pn, .string ps, .int .u8 vk, .int .i64 vn, .string vs] 109) := ⟨_, rfl⟩
  have hb0 : Below w.heap.size w W0 := by rw [hW0]; exact ((Below.refl _ w).alloc (Nat.le_refl _) _).alloc (by simp) _
  have q3 : C6 W0 w.heap.size 48 (.int .u8 pk) (.int .i64 pn) (.string ps) (.int .u8 vk) (.int .i64 vn) (.string vs) := by rw [hW0]; exact (C6.new w _ _ _ _ _ _ _).alloc _
  have q4 : C6 W0 (w.heap.size + 1) 109 (.int .u8 pk) (.int .i64 pn) (.string ps) (.int .u8 vk) (.int .i64 vn) (.string vs) := by
    have h := C6.new (w.alloc (.cells #[.int .u8 pk, .int .i64 pn, .string ps, .int .u8 vk, .int .i64 vn, .string vs] 48)) 109 (.int .u8 pk) (.int .i64 pn) (.string ps) (.int .u8 vk) (.int .i64 vn) (.string vs)
    rw [World.size_alloc] at h
    rw [hW0]
    exact h
  have HB0 := Lib.hid hb0
  obtain ⟨a0, a1, a2, a3, a4, a5, _⟩ := q3.all
  obtain ⟨b0, b1, b2, b3, b4, b5, _⟩ := q4.all
  have l3 := q3.lt
  have l4 := q4.lt
  have y0 := Gb.cell a0 l3
  have y1 := Gb.cell a1 l3
  have y2 := Gb.cell a2 l3
  have y3 := Gb.cell a3 l3
  have y4 := Gb.cell a4 l3
  have y5 := Gb.cell a5 l3
  have z0 := Gb.cell b0 l4
  have z1 := Gb.cell b1 l4
  have z2 := Gb.cell b2 l4
  have z3 := Gb.cell b3 l4
  have z4 := Gb.cell b4 l4
  have z5 := Gb.cell b5 l4
  have HC := Lib.hid (fun W => lof12 (pk, pn, ps) W)
  have HV := Lib.hid (fun W => lof12 (vk, vn, vs) W)
  clear q3 q4 hb0 a0 a1 a2 a3 a4 a5 b0 b1 b2 b3 b4 b5 l3 l4
  go_enter Tryz.func56, Tryz.ntmps56
  go_upto_region 1 with fail
  rw [← hW0]
  clear hW0
  refine region_below (by kernel_rfl) (by kernel_rfl) ?_
  repeat (go_big_quiet_step ((go_at_call 51; first | with_reducible_and_instances exact Gb.calls _ (HC.out _) | with_reducible_and_instances exact Gb.calls _ (HV.out _) | exact Gb.calls _ (HC.out _) | exact Gb.calls _ (HV.out _))))
  refine wpQuiet_nil ?_
  rintro _ ⟨g9, rfl⟩
  have HB6 := Lib.hid (HB0.out.trans (g9.below.mono HB0.out.size))
  generalize g9.at' = w6 at HB6 ⊢
  clear y0 y1 y2 y3 y4 y5 z0 z1 z2 z3 z4 z5
  go_wp2_with fail
  go_ret
  exact ⟨by simp, HB6.out⟩
end Go.Proofs.YtkkfhbcnfknmaaaGreat

namespace Go.Proofs.YtkkfhbcnfknmaaaGreat
set_option maxRecDepth 100000
set_option linter.unusedSimpArgs false
set_option linter.unusedVariables false
open Go.RowKit Go.Shelf
abbrev n12 (n : Int) : Ky := (2, n, ⟨#[]⟩)
theorem addN_two : addN 0 [n12 5, n12 1] [] = [(n12 1, n12 1), (n12 5, n12 0)] := by
  have h1 : putL h0 (n12 5, n12 0) [] = [(n12 5, n12 0)] := rfl
  have h : Srt h0 ([] ++ [(n12 5, n12 0)]) := List.pairwise_singleton _ _
  have h2 := (put_mid (k := n12 1) (v := n12 1) h (fun p hp => by cases hp) (fun p hp => by
    rw [List.mem_singleton] at hp
    subst hp
    exact h0_klt.2 (show vc (n12 1) (n12 5) = -1 by decide)))
  show putL h0 (n12 1, n12 1) (putL h0 (n12 5, n12 0) []) = _
  rw [h1]
  exact h2.symm
theorem ctF_two : ctF (n12 4) [(n12 1, n12 1), (n12 5, n12 0)] = 1 := by decide
theorem ctB_two : ctB (n12 4) [(n12 1, n12 1), (n12 5, n12 0)] = 1 := by decide
theorem kp_six (z : Nat) (a0 a1 a2 a3 a4 a5 : Value) (W : World) : Kp (fun q => q = z) W ((((((W.setCell ⟨z, 0, none⟩ a0).setCell ⟨z, 1, none⟩ a1).setCell ⟨z, 2, none⟩ a2).setCell ⟨z, 3, none⟩ a3).setCell ⟨z, 4, none⟩ a4).setCell ⟨z, 5, none⟩ a5) :=
  ((((((Kp.refl (fun q => q = z) W).setCell (.inl rfl) _).setCell (.inl rfl) _).setCell (.inl rfl) _).setCell (.inl rfl) _).setCell (.inl rfl) _).setCell (.inl rfl) _
section
set_option maxHeartbeats 6000000 in
theorem llives12 (w : World) : Calls Tryz.prog 48 #[] w fun e w' => e = .returned (.bool true) ∧ Below w.heap.size w w' := by
  go_enter Tryz.func48, Tryz.ntmps48
  go_wp2_with fail
  refine (lnumber 5 _).mono ?_
  rintro e w1 ⟨rfl, hb1⟩
  have HB1 := Lib.hid hb1
  clear hb1
  go_wp2_with fail
  refine (lnumber 1 _).mono ?_
  rintro e w2 ⟨rfl, hb2⟩
  have HB2 := Lib.hid (HB1.out.trans (hb2.mono HB1.out.size))
  clear hb2 HB1
  go_wp2_with fail
  obtain ⟨w3, hw3⟩ : ∃ w3, w3 = w2.alloc (.cells #[.int .u8 2, .int .i64 5, .string ⟨#[]⟩, .int .u8 2, .int .i64 1, .string ⟨#[]⟩] 36) := ⟨_, rfl⟩
  have hb3 : Below w.heap.size w w3 := by rw [hw3]; exact HB2.out.alloc HB2.out.size _
  have hL : Lst w3 (some ⟨w2.heap.size, 0, none⟩) [n12 5, n12 1] := by
    have hr : w3.heap[w2.heap.size]? = some (.cells #[.int .u8 2, .int .i64 5, .string ⟨#[]⟩, .int .u8 2, .int .i64 1, .string ⟨#[]⟩] 36 (0, 0)) := by rw [hw3]; exact heap_alloc_new w2 _
    have hc := fun j => cell_of_row w3 w2.heap.size j _ _ (0, 0) hr
    refine .inr ⟨w2.heap.size, 0, rfl, (Array.getElem?_eq_some_iff.1 hr).1, fun i x hx => ?_⟩
    match i, hx with
    | 0, hx => cases hx; exact ⟨by simpa using hc 0, by simpa using hc 1, by simpa using hc 2⟩
    | 1, hx => cases hx; exact ⟨by simpa using hc 3, by simpa using hc 4, by simpa using hc 5⟩
    | i + 2, hx => simp at hx
  rw [← hw3]
  have HB3 := Lib.hid (And.intro hb3 hL)
  clear hw3 hb3 hL HB2
  refine (lmade12 3 (some ⟨w2.heap.size, 0, none⟩) [n12 5, n12 1] 2 w3 HB3.out.2 (by decide) (by decide)).mono ?_
  rintro e w4 ⟨hhas, hb4⟩
  rcases hhas with ⟨_, _, _, _, _, _, _, _, k, hk, hn⟩ | ⟨b, bh, root, M, F, Av, cv, rfl, ha, hT, hrow, hkeys, hlen⟩
  · exfalso
    apply hn
    simp only [List.mem_cons, List.not_mem_nil, or_false] at hk
    rcases hk with rfl | rfl
    · exact ⟨by first | rfl | kernel_rfl | simp [rightB], by decide⟩
    · exact ⟨by first | rfl | kernel_rfl | simp [rightB], by decide⟩
  rw [addN_two] at hT ⊢
  have HM := Lib.hid (And.intro ha (And.intro hT (HB3.out.1.trans (hb4.mono HB3.out.1.size))))
  clear ha hT hrow hkeys hlen hb4
  simp only [List.length_cons, List.length_nil]
  go_upto_region 2 with fail
  obtain ⟨w5, hw5⟩ : ∃ w5, w5 = (w4.alloc (.cells #[ap b, .pointer (some ⟨bh, 0, none⟩)] 26)).alloc (.cells #[.int .i64 2, .int .i64 (root : Nat)] 72) := ⟨_, rfl⟩
  have hb5 : Below w4.heap.size w4 w5 := by rw [hw5]; exact ((Below.refl _ w4).alloc (Nat.le_refl _) _).alloc (by simp) _
  have q1 : C2 w5 w4.heap.size 26 (ap b) (.pointer (some ⟨bh, 0, none⟩)) := by rw [hw5]; exact (C2.new w4 _ _ _).alloc _
  have q2 : C2 w5 (w4.heap.size + 1) 72 (.int .i64 2) (.int .i64 (root : Nat)) := by
    have h := C2.new (w4.alloc (.cells #[ap b, .pointer (some ⟨bh, 0, none⟩)] 26)) 72 (.int .i64 2) (.int .i64 (root : Nat))
    rw [World.size_alloc] at h
    rw [hw5]
    exact h
  have HX := Lib.hid (And.intro q1 (And.intro q2 (And.intro (HM.out.1.below hb5) (And.intro HM.out.2.1 (HM.out.2.2.trans (hb5.mono HM.out.2.2.size))))))
  rw [← hw5]
  clear hb5 q1 q2 HM hw5
  generalize w4.heap.size = z1 at HX ⊢
  generalize z1 + 1 = z2 at HX ⊢
  go_cut [5, 6] from 18 to 24 (fun s5 s6 wc => ∃ z5 : Nat, s5 = .pointer (some ⟨z5, 0, none⟩) ∧ s6 = .bool true ∧ Below w5.heap.size w5 wc ∧ w5.heap.size ≤ z5 ∧ C6 wc z5 48 (.int .u8 2) (.int .i64 1) (.string ⟨#[]⟩) (.int .u8 2) (.int .i64 1) (.string ⟨#[]⟩))
  case first =>
    have l0 : ∀ W', Below w5.heap.size w5 W' → W'.cell? ⟨z1, 0, none⟩ = some (ap b) := fun W' h => (HX.out.1.below h).c0
    have l1 : ∀ W', Below w5.heap.size w5 W' → W'.cell? ⟨z1, 1, none⟩ = some (.pointer (some ⟨bh, 0, none⟩)) := fun W' h => (HX.out.1.below h).c1
    have l2 : ∀ W', Below w5.heap.size w5 W' → W'.cell? ⟨z2, 0, none⟩ = some (.int .i64 2) := fun W' h => (HX.out.2.1.below h).c0
    have l3 : ∀ W', Below w5.heap.size w5 W' → W'.cell? ⟨z2, 1, none⟩ = some (.int .i64 (root : Nat)) := fun W' h => (HX.out.2.1.below h).c1
    refine wp_region_noPanic ?_
    refine wp_region_held_drew (S := fun W' => Below w5.heap.size w5 W') (by kernel_rfl) (Below.refl _ w5).drew (fun hH => ?_)
    generalize w5.drew = Wc at hH ⊢
    refine tkH ?_ 0 hH ?_ ?_; rotate_left
    · intro W' hS; go_simp; with_reducible rfl
    simp only [tkr]
    refine tkH ?_ 1 hH ?_ ?_; rotate_left
    · intro W' hS; go_simp; with_reducible rfl
    simp only [tkr]
    refine wpAnyH_ready (rs := [2, 7]) (by kernel_rfl) (by simp) ?_
    refine AllReadyH.cons rfl (fun K hK => ?_) (AllReadyH.cons rfl (fun K hK => ?_) (AllReadyH.nil))
    · go_simp
      refine (lnumber 4 Wc).mono ?_
      rintro e Wc ⟨rfl, hbn⟩
      have hh := hH.trans (hbn.mono hH.size)
      try replace mz := mz.below hbn
      clear hbn hH
      simp only
      refine hK.out _ _ hh (fun hH => ?_)
      clear hK K hh
      refine wpAnyH_ready (rs := [3, 7]) (by kernel_rfl) (by simp) ?_
      refine AllReadyH.cons rfl (fun K hK => ?_) (AllReadyH.cons rfl (fun K hK => ?_) (AllReadyH.nil))
      · go_simp
        refine (rFloor (b := b) (bh := bh) (most := 4096) (M := M) (F := F) (l := [(n12 1, n12 1), (n12 5, n12 0)]) 2 root (n12 4) Wc (HX.out.2.2.1.below hH) HX.out.2.2.2.1 (by decide)).mono ?_
        rintro e Wc ⟨⟨r, ok, rfl, hr⟩, hbn⟩
        have hr' : ok = true ∧ r = (n12 1, n12 1) := by
          rw [ctF_two] at hr
          rcases hr with ⟨h, _⟩ | ⟨_, h2, h3⟩
          · cases h
          · exact ⟨h2, by simpa using h3.symm⟩
        obtain ⟨rfl, rfl⟩ := hr'
        clear hr
        have hh := hH.trans (hbn.mono hH.size)
        try replace mz := mz.below hbn
        clear hbn hH
        simp only
        refine hK.out _ _ hh (fun hH => ?_)
        clear hK K hh
        refine tkH ?_ 4 hH ?_ ?_; rotate_left
        · intro W' hS; go_simp; with_reducible rfl
        simp only [tkr]
        refine tkH ?_ 5 hH ?_ ?_; rotate_left
        · intro W' hS; go_simp; with_reducible rfl
        simp only [tkr]
        refine tkH ?_ 6 hH ?_ ?_; rotate_left
        · intro W' hS; go_simp; with_reducible rfl
        simp only [tkr]
        refine rdH 7 rfl (fun K hK => ?_)
        go_simp
        have mz := C6.new Wc 48 (.int .u8 0) (.int .i64 0) (.string ⟨#[]⟩) (.int .u8 0) (.int .i64 0) (.string ⟨#[]⟩)
        have nz : w5.heap.size ≤ Wc.heap.size := hH.size
        have hh := hH.alloc hH.size (.cells #[.int .u8 0, .int .i64 0, .string ⟨#[]⟩, .int .u8 0, .int .i64 0, .string ⟨#[]⟩] 48)
        refine hK.out _ _ hh (fun hH => ?_)
        clear hK K hh
        generalize World.alloc _ _ = Wn at mz hH ⊢
        generalize Wc.heap.size = z5 at mz nz ⊢
        rename World => Wc
        refine rdH 8 rfl (fun K hK => ?_)
        obtain ⟨c0, c1, c2, c3, c4, c5, f0, f1, f2, f3, f4, f5⟩ := mz.all
        go_simp
        clear c0 c1 c2 c3 c4 c5 f0 f1 f2 f3 f4 f5
        replace mz := (((((mz.set0 (.int .u8 2)).set1 (.int .i64 1)).set2 (.string ⟨#[]⟩)).set3 (.int .u8 2)).set4 (.int .i64 1)).set5 (.string ⟨#[]⟩)
        have hh := (((((hH.setCell (p := ⟨z5, 0, none⟩) nz (.int .u8 2)).setCell (p := ⟨z5, 1, none⟩) nz (.int .i64 1)).setCell (p := ⟨z5, 2, none⟩) nz (.string ⟨#[]⟩)).setCell (p := ⟨z5, 3, none⟩) nz (.int .u8 2)).setCell (p := ⟨z5, 4, none⟩) nz (.int .i64 1)).setCell (p := ⟨z5, 5, none⟩) nz (.string ⟨#[]⟩)
        refine hK.out _ _ hh (fun hH => ?_)
        clear hK K hh
        refine tkH ?_ 9 hH ?_ ?_; rotate_left
        · intro W' hS; go_simp; with_reducible rfl
        simp only [tkr]
        refine wpAnyH_done (by kernel_rfl) ?_ _
        refine NoPanic.normal ?_
        clear l0 l1 l2 l3
        go_wp2_with fail
        go_meet
        case rel => exact ⟨z5, rfl, rfl, hH, nz, mz⟩
      · go_simp
        have mz := C6.new Wc 48 (.int .u8 0) (.int .i64 0) (.string ⟨#[]⟩) (.int .u8 0) (.int .i64 0) (.string ⟨#[]⟩)
        have nz : w5.heap.size ≤ Wc.heap.size := hH.size
        have hh := hH.alloc hH.size (.cells #[.int .u8 0, .int .i64 0, .string ⟨#[]⟩, .int .u8 0, .int .i64 0, .string ⟨#[]⟩] 48)
        refine hK.out _ _ hh (fun hH => ?_)
        clear hK K hh
        generalize World.alloc _ _ = Wn at mz hH ⊢
        generalize Wc.heap.size = z5 at mz nz ⊢
        rename World => Wc
        refine rdH 3 rfl (fun K hK => ?_)
        go_simp
        refine (rFloor (b := b) (bh := bh) (most := 4096) (M := M) (F := F) (l := [(n12 1, n12 1), (n12 5, n12 0)]) 2 root (n12 4) Wc (HX.out.2.2.1.below hH) HX.out.2.2.2.1 (by decide)).mono ?_
        rintro e Wc ⟨⟨r, ok, rfl, hr⟩, hbn⟩
        have hr' : ok = true ∧ r = (n12 1, n12 1) := by
          rw [ctF_two] at hr
          rcases hr with ⟨h, _⟩ | ⟨_, h2, h3⟩
          · cases h
          · exact ⟨h2, by simpa using h3.symm⟩
        obtain ⟨rfl, rfl⟩ := hr'
        clear hr
        have hh := hH.trans (hbn.mono hH.size)
        try replace mz := mz.below hbn
        clear hbn hH
        simp only
        refine hK.out _ _ hh (fun hH => ?_)
        clear hK K hh
        refine tkH ?_ 4 hH ?_ ?_; rotate_left
        · intro W' hS; go_simp; with_reducible rfl
        simp only [tkr]
        refine tkH ?_ 5 hH ?_ ?_; rotate_left
        · intro W' hS; go_simp; with_reducible rfl
        simp only [tkr]
        refine tkH ?_ 6 hH ?_ ?_; rotate_left
        · intro W' hS; go_simp; with_reducible rfl
        simp only [tkr]
        refine rdH 8 rfl (fun K hK => ?_)
        obtain ⟨c0, c1, c2, c3, c4, c5, f0, f1, f2, f3, f4, f5⟩ := mz.all
        go_simp
        clear c0 c1 c2 c3 c4 c5 f0 f1 f2 f3 f4 f5
        replace mz := (((((mz.set0 (.int .u8 2)).set1 (.int .i64 1)).set2 (.string ⟨#[]⟩)).set3 (.int .u8 2)).set4 (.int .i64 1)).set5 (.string ⟨#[]⟩)
        have hh := (((((hH.setCell (p := ⟨z5, 0, none⟩) nz (.int .u8 2)).setCell (p := ⟨z5, 1, none⟩) nz (.int .i64 1)).setCell (p := ⟨z5, 2, none⟩) nz (.string ⟨#[]⟩)).setCell (p := ⟨z5, 3, none⟩) nz (.int .u8 2)).setCell (p := ⟨z5, 4, none⟩) nz (.int .i64 1)).setCell (p := ⟨z5, 5, none⟩) nz (.string ⟨#[]⟩)
        refine hK.out _ _ hh (fun hH => ?_)
        clear hK K hh
        refine tkH ?_ 9 hH ?_ ?_; rotate_left
        · intro W' hS; go_simp; with_reducible rfl
        simp only [tkr]
        refine wpAnyH_done (by kernel_rfl) ?_ _
        refine NoPanic.normal ?_
        clear l0 l1 l2 l3
        go_wp2_with fail
        go_meet
        case rel => exact ⟨z5, rfl, rfl, hH, nz, mz⟩
    · go_simp
      have mz := C6.new Wc 48 (.int .u8 0) (.int .i64 0) (.string ⟨#[]⟩) (.int .u8 0) (.int .i64 0) (.string ⟨#[]⟩)
      have nz : w5.heap.size ≤ Wc.heap.size := hH.size
      have hh := hH.alloc hH.size (.cells #[.int .u8 0, .int .i64 0, .string ⟨#[]⟩, .int .u8 0, .int .i64 0, .string ⟨#[]⟩] 48)
      refine hK.out _ _ hh (fun hH => ?_)
      clear hK K hh
      generalize World.alloc _ _ = Wn at mz hH ⊢
      generalize Wc.heap.size = z5 at mz nz ⊢
      rename World => Wc
      refine rdH 2 rfl (fun K hK => ?_)
      go_simp
      refine (lnumber 4 Wc).mono ?_
      rintro e Wc ⟨rfl, hbn⟩
      have hh := hH.trans (hbn.mono hH.size)
      try replace mz := mz.below hbn
      clear hbn hH
      simp only
      refine hK.out _ _ hh (fun hH => ?_)
      clear hK K hh
      refine rdH 3 rfl (fun K hK => ?_)
      go_simp
      refine (rFloor (b := b) (bh := bh) (most := 4096) (M := M) (F := F) (l := [(n12 1, n12 1), (n12 5, n12 0)]) 2 root (n12 4) Wc (HX.out.2.2.1.below hH) HX.out.2.2.2.1 (by decide)).mono ?_
      rintro e Wc ⟨⟨r, ok, rfl, hr⟩, hbn⟩
      have hr' : ok = true ∧ r = (n12 1, n12 1) := by
        rw [ctF_two] at hr
        rcases hr with ⟨h, _⟩ | ⟨_, h2, h3⟩
        · cases h
        · exact ⟨h2, by simpa using h3.symm⟩
      obtain ⟨rfl, rfl⟩ := hr'
      clear hr
      have hh := hH.trans (hbn.mono hH.size)
      try replace mz := mz.below hbn
      clear hbn hH
      simp only
      refine hK.out _ _ hh (fun hH => ?_)
      clear hK K hh
      refine tkH ?_ 4 hH ?_ ?_; rotate_left
      · intro W' hS; go_simp; with_reducible rfl
      simp only [tkr]
      refine tkH ?_ 5 hH ?_ ?_; rotate_left
      · intro W' hS; go_simp; with_reducible rfl
      simp only [tkr]
      refine tkH ?_ 6 hH ?_ ?_; rotate_left
      · intro W' hS; go_simp; with_reducible rfl
      simp only [tkr]
      refine rdH 8 rfl (fun K hK => ?_)
      obtain ⟨c0, c1, c2, c3, c4, c5, f0, f1, f2, f3, f4, f5⟩ := mz.all
      go_simp
      clear c0 c1 c2 c3 c4 c5 f0 f1 f2 f3 f4 f5
      replace mz := (((((mz.set0 (.int .u8 2)).set1 (.int .i64 1)).set2 (.string ⟨#[]⟩)).set3 (.int .u8 2)).set4 (.int .i64 1)).set5 (.string ⟨#[]⟩)
      have hh := (((((hH.setCell (p := ⟨z5, 0, none⟩) nz (.int .u8 2)).setCell (p := ⟨z5, 1, none⟩) nz (.int .i64 1)).setCell (p := ⟨z5, 2, none⟩) nz (.string ⟨#[]⟩)).setCell (p := ⟨z5, 3, none⟩) nz (.int .u8 2)).setCell (p := ⟨z5, 4, none⟩) nz (.int .i64 1)).setCell (p := ⟨z5, 5, none⟩) nz (.string ⟨#[]⟩)
      refine hK.out _ _ hh (fun hH => ?_)
      clear hK K hh
      refine tkH ?_ 9 hH ?_ ?_; rotate_left
      · intro W' hS; go_simp; with_reducible rfl
      simp only [tkr]
      refine wpAnyH_done (by kernel_rfl) ?_ _
      refine NoPanic.normal ?_
      clear l0 l1 l2 l3
      go_wp2_with fail
      go_meet
      case rel => exact ⟨z5, rfl, rfl, hH, nz, mz⟩
  case rest =>
    obtain ⟨z5q, rfl, rfl, hb6, hz5, k6⟩ := hcut
    have H6 := Lib.hid (And.intro hb6 (And.intro hz5 k6))
    clear hb6 hz5 k6
    go_upto_region 3 with fail
    go_cut [7, 8] from 25 to 31 (fun s5 s6 wc => ∃ z5 : Nat, s5 = .pointer (some ⟨z5, 0, none⟩) ∧ s6 = .bool true ∧ Below w5.heap.size w5 wc ∧ w5.heap.size ≤ z5 ∧ C6 wc z5 48 (.int .u8 2) (.int .i64 5) (.string ⟨#[]⟩) (.int .u8 2) (.int .i64 0) (.string ⟨#[]⟩) ∧ C6 wc z5q 48 (.int .u8 2) (.int .i64 1) (.string ⟨#[]⟩) (.int .u8 2) (.int .i64 1) (.string ⟨#[]⟩))
    case first =>
      have l0 : ∀ W', Below w5.heap.size w5 W' → W'.cell? ⟨z1, 0, none⟩ = some (ap b) := fun W' h => (HX.out.1.below h).c0
      have l1 : ∀ W', Below w5.heap.size w5 W' → W'.cell? ⟨z1, 1, none⟩ = some (.pointer (some ⟨bh, 0, none⟩)) := fun W' h => (HX.out.1.below h).c1
      have l2 : ∀ W', Below w5.heap.size w5 W' → W'.cell? ⟨z2, 0, none⟩ = some (.int .i64 2) := fun W' h => (HX.out.2.1.below h).c0
      have l3 : ∀ W', Below w5.heap.size w5 W' → W'.cell? ⟨z2, 1, none⟩ = some (.int .i64 (root : Nat)) := fun W' h => (HX.out.2.1.below h).c1
      refine wp_region_noPanic ?_
      refine wp_region_held_drew (S := fun W' => Below w5.heap.size w5 W') (by kernel_rfl) H6.out.1.drew (fun hH => ?_)
      replace H6 := Lib.hid (H6.out.2.2.below (Below.refl _ _).drew)
      generalize World.drew _ = Wc at H6 hH ⊢
      have q5 := H6.out
      clear H6
      refine tkH ?_ 0 hH ?_ ?_; rotate_left
      · intro W' hS; go_simp; with_reducible rfl
      simp only [tkr]
      refine tkH ?_ 1 hH ?_ ?_; rotate_left
      · intro W' hS; go_simp; with_reducible rfl
      simp only [tkr]
      refine wpAnyH_ready (rs := [2, 7]) (by kernel_rfl) (by simp) ?_
      refine AllReadyH.cons rfl (fun K hK => ?_) (AllReadyH.cons rfl (fun K hK => ?_) (AllReadyH.nil))
      · go_simp
        refine (lnumber 4 Wc).mono ?_
        rintro e Wc ⟨rfl, hbn⟩
        have hh := hH.trans (hbn.mono hH.size)
        try replace mz := mz.below hbn
        replace q5 := q5.below hbn
        clear hbn hH
        simp only
        refine hK.out _ _ hh (fun hH => ?_)
        clear hK K hh
        refine wpAnyH_ready (rs := [3, 7]) (by kernel_rfl) (by simp) ?_
        refine AllReadyH.cons rfl (fun K hK => ?_) (AllReadyH.cons rfl (fun K hK => ?_) (AllReadyH.nil))
        · go_simp
          refine (rCeil (b := b) (bh := bh) (most := 4096) (M := M) (F := F) (l := [(n12 1, n12 1), (n12 5, n12 0)]) 2 root (n12 4) Wc (HX.out.2.2.1.below hH) HX.out.2.2.2.1 (by decide)).mono ?_
          rintro e Wc ⟨⟨r, ok, rfl, hr⟩, hbn⟩
          have hr' : ok = true ∧ r = (n12 5, n12 0) := by
            rw [ctB_two] at hr
            rcases hr with ⟨h2, h3⟩ | ⟨_, h3, _⟩
            · exact ⟨h2, by simpa using h3.symm⟩
            · cases h3
          obtain ⟨rfl, rfl⟩ := hr'
          clear hr
          have hh := hH.trans (hbn.mono hH.size)
          try replace mz := mz.below hbn
          replace q5 := q5.below hbn
          clear hbn hH
          simp only
          refine hK.out _ _ hh (fun hH => ?_)
          clear hK K hh
          refine tkH ?_ 4 hH ?_ ?_; rotate_left
          · intro W' hS; go_simp; with_reducible rfl
          simp only [tkr]
          refine tkH ?_ 5 hH ?_ ?_; rotate_left
          · intro W' hS; go_simp; with_reducible rfl
          simp only [tkr]
          refine tkH ?_ 6 hH ?_ ?_; rotate_left
          · intro W' hS; go_simp; with_reducible rfl
          simp only [tkr]
          refine rdH 7 rfl (fun K hK => ?_)
          go_simp
          have mz := C6.new Wc 48 (.int .u8 0) (.int .i64 0) (.string ⟨#[]⟩) (.int .u8 0) (.int .i64 0) (.string ⟨#[]⟩)
          have nz : w5.heap.size ≤ Wc.heap.size := hH.size
          have hh := hH.alloc hH.size (.cells #[.int .u8 0, .int .i64 0, .string ⟨#[]⟩, .int .u8 0, .int .i64 0, .string ⟨#[]⟩] 48)
          have q5old := q5
          replace q5 := q5.alloc (.cells #[.int .u8 0, .int .i64 0, .string ⟨#[]⟩, .int .u8 0, .int .i64 0, .string ⟨#[]⟩] 48)
          have n57 : ¬ z5q = Wc.heap.size := fun e => absurd (show z5q < Wc.heap.size from q5old.lt) (by omega)
          refine hK.out _ _ hh (fun hH => ?_)
          clear hK K hh q5old
          generalize World.alloc _ _ = Wn at mz hH q5 ⊢
          generalize Wc.heap.size = z5 at mz nz n57 ⊢
          rename World => Wc
          refine rdH 8 rfl (fun K hK => ?_)
          obtain ⟨c0, c1, c2, c3, c4, c5, f0, f1, f2, f3, f4, f5⟩ := mz.all
          go_simp
          clear c0 c1 c2 c3 c4 c5 f0 f1 f2 f3 f4 f5
          replace mz := (((((mz.set0 (.int .u8 2)).set1 (.int .i64 5)).set2 (.string ⟨#[]⟩)).set3 (.int .u8 2)).set4 (.int .i64 0)).set5 (.string ⟨#[]⟩)
          have hh := (((((hH.setCell (p := ⟨z5, 0, none⟩) nz (.int .u8 2)).setCell (p := ⟨z5, 1, none⟩) nz (.int .i64 5)).setCell (p := ⟨z5, 2, none⟩) nz (.string ⟨#[]⟩)).setCell (p := ⟨z5, 3, none⟩) nz (.int .u8 2)).setCell (p := ⟨z5, 4, none⟩) nz (.int .i64 0)).setCell (p := ⟨z5, 5, none⟩) nz (.string ⟨#[]⟩)
          replace q5 := q5.kp (kp_six z5 (.int .u8 2) (.int .i64 5) (.string ⟨#[]⟩) (.int .u8 2) (.int .i64 0) (.string ⟨#[]⟩) Wc) n57
          refine hK.out _ _ hh (fun hH => ?_)
          clear hK K hh
          refine tkH ?_ 9 hH ?_ ?_; rotate_left
          · intro W' hS; go_simp; with_reducible rfl
          simp only [tkr]
          refine wpAnyH_done (by kernel_rfl) ?_ _
          refine NoPanic.normal ?_
          clear l0 l1 l2 l3
          go_wp2_with fail
          go_meet
          case rel => exact ⟨z5, rfl, rfl, hH, nz, mz, q5⟩
        · go_simp
          have mz := C6.new Wc 48 (.int .u8 0) (.int .i64 0) (.string ⟨#[]⟩) (.int .u8 0) (.int .i64 0) (.string ⟨#[]⟩)
          have nz : w5.heap.size ≤ Wc.heap.size := hH.size
          have hh := hH.alloc hH.size (.cells #[.int .u8 0, .int .i64 0, .string ⟨#[]⟩, .int .u8 0, .int .i64 0, .string ⟨#[]⟩] 48)
          have q5old := q5
          replace q5 := q5.alloc (.cells #[.int .u8 0, .int .i64 0, .string ⟨#[]⟩, .int .u8 0, .int .i64 0, .string ⟨#[]⟩] 48)
          have n57 : ¬ z5q = Wc.heap.size := fun e => absurd (show z5q < Wc.heap.size from q5old.lt) (by omega)
          refine hK.out _ _ hh (fun hH => ?_)
          clear hK K hh q5old
          generalize World.alloc _ _ = Wn at mz hH q5 ⊢
          generalize Wc.heap.size = z5 at mz nz n57 ⊢
          rename World => Wc
          refine rdH 3 rfl (fun K hK => ?_)
          go_simp
          refine (rCeil (b := b) (bh := bh) (most := 4096) (M := M) (F := F) (l := [(n12 1, n12 1), (n12 5, n12 0)]) 2 root (n12 4) Wc (HX.out.2.2.1.below hH) HX.out.2.2.2.1 (by decide)).mono ?_
          rintro e Wc ⟨⟨r, ok, rfl, hr⟩, hbn⟩
          have hr' : ok = true ∧ r = (n12 5, n12 0) := by
            rw [ctB_two] at hr
            rcases hr with ⟨h2, h3⟩ | ⟨_, h3, _⟩
            · exact ⟨h2, by simpa using h3.symm⟩
            · cases h3
          obtain ⟨rfl, rfl⟩ := hr'
          clear hr
          have hh := hH.trans (hbn.mono hH.size)
          try replace mz := mz.below hbn
          replace q5 := q5.below hbn
          clear hbn hH
          simp only
          refine hK.out _ _ hh (fun hH => ?_)
          clear hK K hh
          refine tkH ?_ 4 hH ?_ ?_; rotate_left
          · intro W' hS; go_simp; with_reducible rfl
          simp only [tkr]
          refine tkH ?_ 5 hH ?_ ?_; rotate_left
          · intro W' hS; go_simp; with_reducible rfl
          simp only [tkr]
          refine tkH ?_ 6 hH ?_ ?_; rotate_left
          · intro W' hS; go_simp; with_reducible rfl
          simp only [tkr]
          refine rdH 8 rfl (fun K hK => ?_)
          obtain ⟨c0, c1, c2, c3, c4, c5, f0, f1, f2, f3, f4, f5⟩ := mz.all
          go_simp
          clear c0 c1 c2 c3 c4 c5 f0 f1 f2 f3 f4 f5
          replace mz := (((((mz.set0 (.int .u8 2)).set1 (.int .i64 5)).set2 (.string ⟨#[]⟩)).set3 (.int .u8 2)).set4 (.int .i64 0)).set5 (.string ⟨#[]⟩)
          have hh := (((((hH.setCell (p := ⟨z5, 0, none⟩) nz (.int .u8 2)).setCell (p := ⟨z5, 1, none⟩) nz (.int .i64 5)).setCell (p := ⟨z5, 2, none⟩) nz (.string ⟨#[]⟩)).setCell (p := ⟨z5, 3, none⟩) nz (.int .u8 2)).setCell (p := ⟨z5, 4, none⟩) nz (.int .i64 0)).setCell (p := ⟨z5, 5, none⟩) nz (.string ⟨#[]⟩)
          replace q5 := q5.kp (kp_six z5 (.int .u8 2) (.int .i64 5) (.string ⟨#[]⟩) (.int .u8 2) (.int .i64 0) (.string ⟨#[]⟩) Wc) n57
          refine hK.out _ _ hh (fun hH => ?_)
          clear hK K hh
          refine tkH ?_ 9 hH ?_ ?_; rotate_left
          · intro W' hS; go_simp; with_reducible rfl
          simp only [tkr]
          refine wpAnyH_done (by kernel_rfl) ?_ _
          refine NoPanic.normal ?_
          clear l0 l1 l2 l3
          go_wp2_with fail
          go_meet
          case rel => exact ⟨z5, rfl, rfl, hH, nz, mz, q5⟩
      · go_simp
        have mz := C6.new Wc 48 (.int .u8 0) (.int .i64 0) (.string ⟨#[]⟩) (.int .u8 0) (.int .i64 0) (.string ⟨#[]⟩)
        have nz : w5.heap.size ≤ Wc.heap.size := hH.size
        have hh := hH.alloc hH.size (.cells #[.int .u8 0, .int .i64 0, .string ⟨#[]⟩, .int .u8 0, .int .i64 0, .string ⟨#[]⟩] 48)
        have q5old := q5
        replace q5 := q5.alloc (.cells #[.int .u8 0, .int .i64 0, .string ⟨#[]⟩, .int .u8 0, .int .i64 0, .string ⟨#[]⟩] 48)
        have n57 : ¬ z5q = Wc.heap.size := fun e => absurd (show z5q < Wc.heap.size from q5old.lt) (by omega)
        refine hK.out _ _ hh (fun hH => ?_)
        clear hK K hh q5old
        generalize World.alloc _ _ = Wn at mz hH q5 ⊢
        generalize Wc.heap.size = z5 at mz nz n57 ⊢
        rename World => Wc
        refine rdH 2 rfl (fun K hK => ?_)
        go_simp
        refine (lnumber 4 Wc).mono ?_
        rintro e Wc ⟨rfl, hbn⟩
        have hh := hH.trans (hbn.mono hH.size)
        try replace mz := mz.below hbn
        replace q5 := q5.below hbn
        clear hbn hH
        simp only
        refine hK.out _ _ hh (fun hH => ?_)
        clear hK K hh
        refine rdH 3 rfl (fun K hK => ?_)
        go_simp
        refine (rCeil (b := b) (bh := bh) (most := 4096) (M := M) (F := F) (l := [(n12 1, n12 1), (n12 5, n12 0)]) 2 root (n12 4) Wc (HX.out.2.2.1.below hH) HX.out.2.2.2.1 (by decide)).mono ?_
        rintro e Wc ⟨⟨r, ok, rfl, hr⟩, hbn⟩
        have hr' : ok = true ∧ r = (n12 5, n12 0) := by
          rw [ctB_two] at hr
          rcases hr with ⟨h2, h3⟩ | ⟨_, h3, _⟩
          · exact ⟨h2, by simpa using h3.symm⟩
          · cases h3
        obtain ⟨rfl, rfl⟩ := hr'
        clear hr
        have hh := hH.trans (hbn.mono hH.size)
        try replace mz := mz.below hbn
        replace q5 := q5.below hbn
        clear hbn hH
        simp only
        refine hK.out _ _ hh (fun hH => ?_)
        clear hK K hh
        refine tkH ?_ 4 hH ?_ ?_; rotate_left
        · intro W' hS; go_simp; with_reducible rfl
        simp only [tkr]
        refine tkH ?_ 5 hH ?_ ?_; rotate_left
        · intro W' hS; go_simp; with_reducible rfl
        simp only [tkr]
        refine tkH ?_ 6 hH ?_ ?_; rotate_left
        · intro W' hS; go_simp; with_reducible rfl
        simp only [tkr]
        refine rdH 8 rfl (fun K hK => ?_)
        obtain ⟨c0, c1, c2, c3, c4, c5, f0, f1, f2, f3, f4, f5⟩ := mz.all
        go_simp
        clear c0 c1 c2 c3 c4 c5 f0 f1 f2 f3 f4 f5
        replace mz := (((((mz.set0 (.int .u8 2)).set1 (.int .i64 5)).set2 (.string ⟨#[]⟩)).set3 (.int .u8 2)).set4 (.int .i64 0)).set5 (.string ⟨#[]⟩)
        have hh := (((((hH.setCell (p := ⟨z5, 0, none⟩) nz (.int .u8 2)).setCell (p := ⟨z5, 1, none⟩) nz (.int .i64 5)).setCell (p := ⟨z5, 2, none⟩) nz (.string ⟨#[]⟩)).setCell (p := ⟨z5, 3, none⟩) nz (.int .u8 2)).setCell (p := ⟨z5, 4, none⟩) nz (.int .i64 0)).setCell (p := ⟨z5, 5, none⟩) nz (.string ⟨#[]⟩)
        replace q5 := q5.kp (kp_six z5 (.int .u8 2) (.int .i64 5) (.string ⟨#[]⟩) (.int .u8 2) (.int .i64 0) (.string ⟨#[]⟩) Wc) n57
        refine hK.out _ _ hh (fun hH => ?_)
        clear hK K hh
        refine tkH ?_ 9 hH ?_ ?_; rotate_left
        · intro W' hS; go_simp; with_reducible rfl
        simp only [tkr]
        refine wpAnyH_done (by kernel_rfl) ?_ _
        refine NoPanic.normal ?_
        clear l0 l1 l2 l3
        go_wp2_with fail
        go_meet
        case rel => exact ⟨z5, rfl, rfl, hH, nz, mz, q5⟩
    case rest =>
      obtain ⟨z7, rfl, rfl, hb7, hz7, k7, k5⟩ := hcut
      obtain ⟨a0, a1, a2, a3, a4, a5, _⟩ := k5.all
      obtain ⟨b0, b1, b2, b3, b4, b5, _⟩ := k7.all
      have l5 := k5.lt
      have l7 := k7.lt
      have y0 := Gb.cell a0 l5
      have y1 := Gb.cell a1 l5
      have y2 := Gb.cell a2 l5
      have x0 := Gb.cell b0 l7
      have x1 := Gb.cell b1 l7
      have x2 := Gb.cell b2 l7
      have HBF := Lib.hid (HX.out.2.2.2.2.trans (hb7.mono HX.out.2.2.2.2.size))
      have HN1 := Lib.hid (fun W => lnumber 1 W)
      have HN5 := Lib.hid (fun W => lnumber 5 W)
      clear a0 a1 a2 a3 a4 a5 b0 b1 b2 b3 b4 b5 l5 l7 k5 k7 hb7 hz7 HX H6
      go_upto_region 4 with fail
      refine region_below (by kernel_rfl) (by kernel_rfl) ?_
      repeat (go_big_quiet_step ((go_at_call 13; first | with_reducible_and_instances exact Gb.calls _ (HN1.out _) | with_reducible_and_instances exact Gb.calls _ (HN5.out _) | exact Gb.calls _ (HN1.out _) | exact Gb.calls _ (HN5.out _))))
      refine wpQuiet_nil ?_
      rintro _ ⟨g9, rfl⟩
      have HB6 := Lib.hid (HBF.out.trans (g9.below.mono HBF.out.size))
      generalize g9.at' = w6 at HB6 ⊢
      clear y0 y1 y2 x0 x1 x2
      go_wp2_with fail
      go_ret
      exact ⟨by simp, HB6.out⟩
end
end Go.Proofs.YtkkfhbcnfknmaaaGreat

namespace Go.Proofs.YtkkfhbcnfknmaaaGreat
set_option maxRecDepth 100000
set_option linter.unusedSimpArgs false
set_option linter.unusedVariables false
open Go.RowKit Go.Shelf
abbrev bagg (k : Ky) (o : Bool) : Value := .agg #[.int .u8 k.1, .int .i64 k.2.1, .string k.2.2, .bool o]
theorem below_bound (a : Ky) (o : Bool) (k : Ky) (w : World) : Below w.heap.size w ((w.alloc (.cells #[.int .u8 a.1, .int .i64 a.2.1, .string a.2.2, .bool o] 113)).alloc (.cells #[.int .u8 k.1, .int .i64 k.2.1, .string k.2.2] 36)) := ((Below.refl _ w).alloc (Nat.le_refl _) _).alloc (by simp) _
theorem vbegun (a : Ky) (o : Bool) (k : Ky) (w : World) : Calls Tryz.prog 100 #[bagg a o, xagg k] w fun e w' => e = .returned (.bool (o || decide (0 ≤ vc k a))) ∧ Below w.heap.size w w' := by
  cases o with
  | true =>
    go_enter Tryz.func100, Tryz.ntmps100
    go_wp2_with fail
    exact bodyPost_ret (v := .bool true) (by simp [results, Tryz.results100, go_sem]) rfl ⟨by simp, below_bound a true k w⟩
  | false =>
    go_enter Tryz.func100, Tryz.ntmps100
    go_wp2_with fail
    refine (vcompare k a _).mono ?_
    rintro e w1 ⟨rfl, hb⟩
    have HB := Lib.hid ((below_bound a false k w).trans (hb.mono (below_bound a false k w).size))
    clear hb
    by_cases hv : 0 ≤ vc k a
    · have HV := Lib.hid hv
      go_wp2_with fail
      exact bodyPost_ret (v := .bool true) (by simp [results, Tryz.results100, go_sem]) rfl ⟨by simp [HV.out], HB.out⟩
    · have HV := Lib.hid hv
      go_wp2_with fail
      exact bodyPost_ret (v := .bool false) (by simpa [results, Tryz.results100, go_sem] using HV.out) rfl ⟨by simpa using HV.out, HB.out⟩
theorem vended (a : Ky) (o : Bool) (k : Ky) (w : World) : Calls Tryz.prog 99 #[bagg a o, xagg k] w fun e w' => e = .returned (.bool (!o && decide (0 ≤ vc k a))) ∧ Below w.heap.size w w' := by
  cases o with
  | true =>
    go_enter Tryz.func99, Tryz.ntmps99
    go_wp2_with fail
    exact bodyPost_ret (v := .bool false) (by simp [results, Tryz.results99, go_sem]) rfl ⟨by simp, below_bound a true k w⟩
  | false =>
    go_enter Tryz.func99, Tryz.ntmps99
    go_wp2_with fail
    refine (vcompare k a _).mono ?_
    rintro e w1 ⟨rfl, hb⟩
    have HB := Lib.hid ((below_bound a false k w).trans (hb.mono (below_bound a false k w).size))
    clear hb
    by_cases hv : 0 ≤ vc k a
    · have HV := Lib.hid hv
      go_wp2_with fail
      exact bodyPost_ret (v := .bool true) (by simp [results, Tryz.results99, go_sem]) rfl ⟨by simp [HV.out], HB.out⟩
    · have HV := Lib.hid hv
      go_wp2_with fail
      exact bodyPost_ret (v := .bool false) (by simpa [results, Tryz.results99, go_sem] using HV.out) rfl ⟨by simpa using HV.out, HB.out⟩
end Go.Proofs.YtkkfhbcnfknmaaaGreat

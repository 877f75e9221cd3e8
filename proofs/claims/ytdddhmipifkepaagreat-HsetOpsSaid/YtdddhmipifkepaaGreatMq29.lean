/- Several texts in one. -/
import Derived.Test.YtdddhmipifkepaaGreatMq28
import Derived.Test.YtdddhmipifkepaaGreatMq11
import Derived.IntWalk
set_option linter.unusedSimpArgs false
namespace Go.Proofs.YtdddhmipifkepaaGreat
set_option maxRecDepth 100000
set_option linter.unusedSimpArgs false
set_option linter.unusedVariables false
open Go.RowKit Go.Shelf
def Own1 (w : World) (F : Nat → Prop) (z1 bh z : Nat) : Prop := w.heap.size ≤ z ∧ ¬ F z ∧ ¬ z1 = z ∧ ¬ z = bh
theorem LS.fresh {w W : World} {b bh seed most z1 : Nat} {M : Cells} {F : Nat → Prop} (h : LS w b bh seed most z1 M F W) : Own1 w F z1 bh W.heap.size :=
  ⟨h.bel.size, fun hf => absurd (h.ar.lt hf) (Nat.lt_irrefl _), fun e => absurd h.lb.lt (by rw [e]; exact Nat.lt_irrefl _), fun e => absurd h.hh.lt (by rw [← e]; exact Nat.lt_irrefl _)⟩
theorem MapR.held {most root n : Nat} {M M' : Cells} {P : Nat → Nat} {hs : Ky → Nat} {ow : Int} {l : List Pr} (h : MapR most M P hs root ow l n M') : Bk (most + 1) M' [] (fun j => out1 P root ow j + [n].count j) [] :=
  h.bk.move (fun k _ => by simp) (fun x hx => by simp at hx)
theorem LS.from {w W W' : World} {b bh seed most z1 : Nat} {M M' : Cells} {P : Nat → Nat} {F F' : Nat → Prop} {hx : List Nat} {cnt : Nat} (h : LS w b bh seed most z1 M F W) (hr : FromR W W' F b bh seed most M P M' F' hx cnt) : LS w b bh seed most z1 M' F' W' ∧ ∀ q, q < W.heap.size → ¬ F q → ¬ F' q := by
  have hz := h.lb.lt
  have hn : ∀ q, q < W.heap.size → ¬ F q → ¬ F' q := fun q hq hf hf2 => (hr.fr q hf2).elim hf (fun e => by omega)
  exact ⟨⟨hr.ar, hr.hh, hr.nb, h.lb.kp hr.kp (fun e => e.elim h.nz.1 h.nz.2), ⟨hn z1 hz h.nz.1, h.nz.2⟩, below_kp h.bel hr.kp (fun q e => e.elim (h.fr q) (fun e => by rw [e]; exact h.lo.2)), fun q hf => (hr.fr q hf).elim (h.fr q) (fun e => Nat.le_trans h.bel.size e), h.lo⟩, hn⟩
theorem two_or (hs : Ky → Nat) (k1 k2 : Ky) (h : k2 ≠ k1) : (addAll hs (fun _ => true) ([k1] ++ [k2]) []).length = 2 ∧ hasB k2 (addAll hs (fun _ => true) ([k1] ++ [k2]) []) = true := by
  have e : addAll hs (fun _ => true) ([k1] ++ [k2]) [] = putL hs (k2, noV) [(k1, noV)] := rfl
  have hs1 : Srt hs [(k1, noV)] := List.pairwise_singleton _ _
  have hb : hasB k2 [(k1, noV)] = false := by
    unfold hasB
    have h2 : ¬ k1 = k2 := fun e => h e.symm
    simp [h2]
  refine ⟨?_, ?_⟩
  · rw [e, putL_length hs1, hb]
    rfl
  · rw [e]
    exact hasB_iff.2 ⟨_, ((putL_spec hs1).2 _).2 (.inl rfl), rfl⟩
theorem addone {b bh z1 : Nat} {hs : Ky → Nat} {M : Cells} {P : Nat → Nat} {F : Nat → Prop} {w : World} (k : Ky) (hhs : ∀ q, OkK q → hs q = hashN 1 q.1 q.2.1 q.2.2) (hk : OkK k) (hb : Bk (16384 + 1) M [] P []) (hP : ∀ j, P j ≤ 10) (hlv : live (16384 + 1) M ≤ 1000) (W : World) (h : LS w b bh 1 16384 z1 M F W) :
    Calls Tryz.prog 41 #[land b bh, .agg #[.int .i64 0, .int .i64 0], xagg k, .int .u32 0] W fun e W' => ∃ (n : Nat) (M' : Cells) (F' : Nat → Prop), e = .returned (.tuple #[.agg #[.int .i64 1, .int .i64 (n : Nat)], .int .i64 0]) ∧ LS w b bh 1 16384 z1 M' F' W' ∧ (1 ≤ n ∧ MapR 16384 M P hs 0 0 [(k, noV)] n M') ∧ (∀ q, q < W.heap.size → ¬ F q → ¬ F' q) ∧ Kp (fun q => F q ∨ q = bh) W W' := by
  refine (vAdd (l := []) b bh 1 0 k 0 P W h.ar (by decide) (hb.perm (fun j hj => by rw [count1r, if_neg (by omega)]; rfl)) (fun j => Nat.le_trans (hP j) (by decide)) (.inl ⟨rfl, rfl⟩) h.hh h.nb hhs (fun q hq => by cases hq) hk (by decide)).mono ?_
  rintro e W' (⟨_, _, hlong, _⟩ | ⟨_, hfull, _⟩ | ⟨n, M', rfl, _, n1, hm, hs2⟩)
  · exact absurd hlong (by unfold Long; decide)
  · omega
  · exact ⟨n, M', _, rfl, h.put hs2, ⟨n1, hm⟩, fun q hq hf hf2 => hf2.elim hf (fun e => by omega), hs2.kp⟩
section
set_option maxHeartbeats 6000000 in
theorem llives10 (w : World) : Calls Tryz.prog 21 #[] w fun e w' => e = .returned (.bool true) ∧ Below w.heap.size w w' := by
  obtain ⟨hs, hhs⟩ : ∃ hs : Ky → Nat, ∀ q, OkK q → hs q = hashN 1 q.1 q.2.1 q.2.2 := ⟨fun q => hashN 1 q.1 q.2.1 q.2.2, fun _ _ => rfl⟩
  have ok1 : OkK (2, 1, ⟨#[]⟩) := by decide
  have ok2 : OkK (2, 2, ⟨#[]⟩) := by decide
  have HL := Lib.hid (lland10 1 w)
  have HHS := Lib.hid hhs
  clear hhs
  go_enter Tryz.func21, Tryz.ntmps21
  go_wp2_with fail
  refine HL.out.mono ?_
  rintro e w1 ⟨b, bh, rfl, ha, hh, hne, hb0, hbh, hbl⟩
  have LB := Lib.hid (And.intro ha (And.intro hh (And.intro hne (And.intro hb0 (And.intro hbh hbl)))))
  have hbb := ha.blt
  have hhb := hh.lt
  clear ha hh hne hb0 hbh hbl HL
  go_upto_region 2 with fail
  have ls : LS w b bh 1 16384 w1.heap.size (fun _ => none) (fun k => k = b) (w1.alloc (.cells #[ap b, .pointer (some ⟨bh, 0, none⟩)] 26)) := by
    obtain ⟨ha, hh, hne, hb0, hbh, hbl⟩ := LB.out
    exact ⟨ha.alloc _, hh.alloc _, fun e => hne e.symm, C2.new _ _ _ _, ⟨fun e => by omega, by omega⟩, hbl.alloc hbl.size _, fun q e => by omega, ⟨hbl.size, hbh⟩⟩
  clear hbb hhb
  generalize w1.alloc (.cells #[ap b, .pointer (some ⟨bh, 0, none⟩)] 26) = w2 at ls ⊢
  generalize w1.heap.size = z1 at ls ⊢
  have HADD := Lib.hid (addone (z1 := z1) (F := fun k => k = b) (w := w) (2, 1, ⟨#[]⟩) HHS.out ok1 ((bk0 16384).perm (fun j hj => by rw [count1r, if_neg (by omega)]; rfl)) (fun _ => by decide) (by rw [live_zero (fun _ => rfl)]; omega) : ∀ W, LS w b bh 1 16384 z1 (fun _ => none) (fun k => k = b) W → _)
  go_cut [2, 3] from 9 to 15 (fun s2 s3 wc => ∃ (z2 n : Nat) (M' : Cells) (F' : Nat → Prop), s2 = .pointer (some ⟨z2, 0, none⟩) ∧ s3 = .int .i64 0 ∧ C2 wc z2 54 (.int .i64 1) (.int .i64 (n : Nat)) ∧ LS w b bh 1 16384 z1 M' F' wc ∧ (1 ≤ n ∧ MapR 16384 (fun _ => none) (fun _ => 0) hs 0 0 [((2, 1, ⟨#[]⟩), noV)] n M') ∧ Own1 w F' z1 bh z2)
  case first =>
    have l0 : ∀ W', C2 W' z1 26 (ap b) (.pointer (some ⟨bh, 0, none⟩)) → W'.cell? ⟨z1, 0, none⟩ = some (ap b) := fun W' h => h.c0
    have l1 : ∀ W', C2 W' z1 26 (ap b) (.pointer (some ⟨bh, 0, none⟩)) → W'.cell? ⟨z1, 1, none⟩ = some (.pointer (some ⟨bh, 0, none⟩)) := fun W' h => h.c1
    refine wp_region_noPanic ?_
    refine wp_region_held_drew (S := (fun W' => C2 W' z1 26 (ap b) (.pointer (some ⟨bh, 0, none⟩)))) (by kernel_rfl) (ls.below (Below.refl _ w2).drew).lb (fun hH => ?_)
    replace ls := ls.below (Below.refl _ w2).drew
    generalize w2.drew = Wc at ls hH ⊢
    refine tkH ?_ 0 hH ?_ ?_; rotate_left
    · intro W' hS; go_simp; with_reducible rfl
    simp only [tkr]
    refine tkH ?_ 1 hH ?_ ?_; rotate_left
    · intro W' hS; go_simp; with_reducible rfl
    simp only [tkr]
    refine wpAnyH_ready (rs := [2, 7]) (by kernel_rfl) (by simp) ?_
    refine AllReadyH.cons rfl (fun K hK => ?_) (AllReadyH.cons rfl (fun K hK => ?_) (AllReadyH.nil))
    · go_simp
      refine (lnumber 1 Wc).mono ?_
      rintro e Wc ⟨rfl, hbn⟩
      replace ls := ls.below hbn
      try replace mz := mz.below hbn
      clear hbn
      simp only
      refine hK.out _ _ ?_ (fun hH => ?_)
      · exact ls.lb
      clear hK K
      refine wpAnyH_ready (rs := [3, 7]) (by kernel_rfl) (by simp) ?_
      refine AllReadyH.cons rfl (fun K hK => ?_) (AllReadyH.cons rfl (fun K hK => ?_) (AllReadyH.nil))
      · go_simp
        refine (HADD.out Wc ls).mono ?_
        rintro e Wc ⟨n, M1, F1, rfl, ls1, hpt, hF1, hk1⟩
        try have hz2 := mz.lt
        try replace mz := mz.kp hk1 (fun e => e.elim nz.2.1 nz.2.2.2)
        try replace nz := (show Own1 w F1 z1 bh z2 from ⟨nz.1, hF1 z2 hz2 nz.2.1, nz.2.2⟩)
        replace ls := ls1
        simp only
        refine hK.out _ _ ?_ (fun hH => ?_)
        · exact ls.lb
        clear hK K ls1 hF1 hk1
        refine tkH ?_ 4 hH ?_ ?_; rotate_left
        · intro W' hS; go_simp; with_reducible rfl
        simp only [tkr]
        refine tkH ?_ 5 hH ?_ ?_; rotate_left
        · intro W' hS; go_simp; with_reducible rfl
        simp only [tkr]
        refine tkH ?_ 6 hH ?_ ?_; rotate_left
        · intro W' hS; go_simp; with_reducible rfl
        simp only [tkr]
        refine rdH 7 rfl (fun K hK => ?_)
        go_simp
        have mz := C2.new Wc 54 (.int .i64 0) (.int .i64 0)
        have nz := ls.fresh
        replace ls := ls.alloc (.cells #[.int .i64 0, .int .i64 0] 54)
        refine hK.out _ _ ?_ (fun hH => ?_)
        · exact ls.lb
        clear hK K
        generalize World.alloc _ _ = Wn at ls mz hH ⊢
        generalize Wc.heap.size = z2 at mz nz ⊢
        rename World => Wc
        refine rdH 8 rfl (fun K hK => ?_)
        obtain ⟨c0, c1, f0, f1⟩ := mz.all
        go_simp
        clear c0 c1 f0 f1
        have kz : Kp (fun q => q = z2) Wc ((Wc.setCell ⟨z2, 0, none⟩ (.int .i64 1)).setCell ⟨z2, 1, none⟩ (.int .i64 (n : Nat))) := ((Kp.refl (fun q => q = z2) Wc).setCell (.inl rfl) _).setCell (.inl rfl) _
        replace ls := ls.kp kz (fun q e => by rw [e]; exact ⟨nz.1, nz.2.1, nz.2.2.2, fun e => nz.2.2.1 e.symm⟩)
        replace mz := (mz.set0 (.int .i64 1)).set1 (.int .i64 (n : Nat))
        refine hK.out _ _ ?_ (fun hH => ?_)
        · exact ls.lb
        clear hK K kz
        refine tkH ?_ 9 hH ?_ ?_; rotate_left
        · intro W' hS; go_simp; with_reducible rfl
        simp only [tkr]
        refine wpAnyH_done (by kernel_rfl) ?_ _
        refine NoPanic.normal ?_
        clear l0 l1
        go_wp2_with fail
        go_meet
        exact ⟨z2, n, M1, F1, rfl, rfl, mz, ls, hpt, nz⟩
      · go_simp
        have mz := C2.new Wc 54 (.int .i64 0) (.int .i64 0)
        have nz := ls.fresh
        replace ls := ls.alloc (.cells #[.int .i64 0, .int .i64 0] 54)
        refine hK.out _ _ ?_ (fun hH => ?_)
        · exact ls.lb
        clear hK K
        generalize World.alloc _ _ = Wn at ls mz hH ⊢
        generalize Wc.heap.size = z2 at mz nz ⊢
        rename World => Wc
        refine rdH 3 rfl (fun K hK => ?_)
        go_simp
        refine (HADD.out Wc ls).mono ?_
        rintro e Wc ⟨n, M1, F1, rfl, ls1, hpt, hF1, hk1⟩
        try have hz2 := mz.lt
        try replace mz := mz.kp hk1 (fun e => e.elim nz.2.1 nz.2.2.2)
        try replace nz := (show Own1 w F1 z1 bh z2 from ⟨nz.1, hF1 z2 hz2 nz.2.1, nz.2.2⟩)
        replace ls := ls1
        simp only
        refine hK.out _ _ ?_ (fun hH => ?_)
        · exact ls.lb
        clear hK K ls1 hF1 hk1
        refine tkH ?_ 4 hH ?_ ?_; rotate_left
        · intro W' hS; go_simp; with_reducible rfl
        simp only [tkr]
        refine tkH ?_ 5 hH ?_ ?_; rotate_left
        · intro W' hS; go_simp; with_reducible rfl
        simp only [tkr]
        refine tkH ?_ 6 hH ?_ ?_; rotate_left
        · intro W' hS; go_simp; with_reducible rfl
        simp only [tkr]
        refine rdH 8 rfl (fun K hK => ?_)
        obtain ⟨c0, c1, f0, f1⟩ := mz.all
        go_simp
        clear c0 c1 f0 f1
        have kz : Kp (fun q => q = z2) Wc ((Wc.setCell ⟨z2, 0, none⟩ (.int .i64 1)).setCell ⟨z2, 1, none⟩ (.int .i64 (n : Nat))) := ((Kp.refl (fun q => q = z2) Wc).setCell (.inl rfl) _).setCell (.inl rfl) _
        replace ls := ls.kp kz (fun q e => by rw [e]; exact ⟨nz.1, nz.2.1, nz.2.2.2, fun e => nz.2.2.1 e.symm⟩)
        replace mz := (mz.set0 (.int .i64 1)).set1 (.int .i64 (n : Nat))
        refine hK.out _ _ ?_ (fun hH => ?_)
        · exact ls.lb
        clear hK K kz
        refine tkH ?_ 9 hH ?_ ?_; rotate_left
        · intro W' hS; go_simp; with_reducible rfl
        simp only [tkr]
        refine wpAnyH_done (by kernel_rfl) ?_ _
        refine NoPanic.normal ?_
        clear l0 l1
        go_wp2_with fail
        go_meet
        exact ⟨z2, n, M1, F1, rfl, rfl, mz, ls, hpt, nz⟩
    · go_simp
      have mz := C2.new Wc 54 (.int .i64 0) (.int .i64 0)
      have nz := ls.fresh
      replace ls := ls.alloc (.cells #[.int .i64 0, .int .i64 0] 54)
      refine hK.out _ _ ?_ (fun hH => ?_)
      · exact ls.lb
      clear hK K
      generalize World.alloc _ _ = Wn at ls mz hH ⊢
      generalize Wc.heap.size = z2 at mz nz ⊢
      rename World => Wc
      refine rdH 2 rfl (fun K hK => ?_)
      go_simp
      refine (lnumber 1 Wc).mono ?_
      rintro e Wc ⟨rfl, hbn⟩
      replace ls := ls.below hbn
      try replace mz := mz.below hbn
      clear hbn
      simp only
      refine hK.out _ _ ?_ (fun hH => ?_)
      · exact ls.lb
      clear hK K
      refine rdH 3 rfl (fun K hK => ?_)
      go_simp
      refine (HADD.out Wc ls).mono ?_
      rintro e Wc ⟨n, M1, F1, rfl, ls1, hpt, hF1, hk1⟩
      try have hz2 := mz.lt
      try replace mz := mz.kp hk1 (fun e => e.elim nz.2.1 nz.2.2.2)
      try replace nz := (show Own1 w F1 z1 bh z2 from ⟨nz.1, hF1 z2 hz2 nz.2.1, nz.2.2⟩)
      replace ls := ls1
      simp only
      refine hK.out _ _ ?_ (fun hH => ?_)
      · exact ls.lb
      clear hK K ls1 hF1 hk1
      refine tkH ?_ 4 hH ?_ ?_; rotate_left
      · intro W' hS; go_simp; with_reducible rfl
      simp only [tkr]
      refine tkH ?_ 5 hH ?_ ?_; rotate_left
      · intro W' hS; go_simp; with_reducible rfl
      simp only [tkr]
      refine tkH ?_ 6 hH ?_ ?_; rotate_left
      · intro W' hS; go_simp; with_reducible rfl
      simp only [tkr]
      refine rdH 8 rfl (fun K hK => ?_)
      obtain ⟨c0, c1, f0, f1⟩ := mz.all
      go_simp
      clear c0 c1 f0 f1
      have kz : Kp (fun q => q = z2) Wc ((Wc.setCell ⟨z2, 0, none⟩ (.int .i64 1)).setCell ⟨z2, 1, none⟩ (.int .i64 (n : Nat))) := ((Kp.refl (fun q => q = z2) Wc).setCell (.inl rfl) _).setCell (.inl rfl) _
      replace ls := ls.kp kz (fun q e => by rw [e]; exact ⟨nz.1, nz.2.1, nz.2.2.2, fun e => nz.2.2.1 e.symm⟩)
      replace mz := (mz.set0 (.int .i64 1)).set1 (.int .i64 (n : Nat))
      refine hK.out _ _ ?_ (fun hH => ?_)
      · exact ls.lb
      clear hK K kz
      refine tkH ?_ 9 hH ?_ ?_; rotate_left
      · intro W' hS; go_simp; with_reducible rfl
      simp only [tkr]
      refine wpAnyH_done (by kernel_rfl) ?_ _
      refine NoPanic.normal ?_
      clear l0 l1
      go_wp2_with fail
      go_meet
      exact ⟨z2, n, M1, F1, rfl, rfl, mz, ls, hpt, nz⟩
  case rest =>
    obtain ⟨z2, n1, M1, F1, rfl, rfl, bz, ls, ⟨h1, hm1⟩, no⟩ := hcut
    have hk1' : (fun j => out1 (fun _ => 0) 0 0 j + [n1].count j) n1 = out1 (fun _ => 0) 0 0 n1 + 1 := by simp
    obtain ⟨P1, hP1⟩ : ∃ P1 : Nat → Nat, P1 = fun j => out1 (fun _ => 0) 0 0 j + [n1].count j := ⟨_, rfl⟩
    have hP1b : ∀ j, P1 j ≤ 2 := fun j => by
      have e1 := out1_le (fun _ => 0) 0 0 j
      have e2 : [n1].count j ≤ 1 := List.count_le_length
      rw [hP1]
      show out1 (fun _ => 0) 0 0 j + [n1].count j ≤ 2
      omega
    have hP11 : 1 ≤ P1 n1 := by rw [hP1, hk1']; omega
    have hb1 := hm1.held
    rw [← hP1] at hb1
    have hl1 : live (16384 + 1) M1 ≤ 16 := by have := hm1.live; rw [live_zero (fun _ => rfl)] at this; omega
    have MP1 := Lib.hid (And.intro h1 (And.intro hm1.mp (And.intro hl1 (And.intro hP1b (And.intro hP11 ls.ar.zero)))))
    have HADD2 := Lib.hid (fun W (hW : LS w b bh 1 16384 z1 M1 F1 W) => addone (z1 := z1) (F := F1) (w := w) (2, 2, ⟨#[]⟩) HHS.out ok2 hb1 (fun j => Nat.le_trans (hP1b j) (by decide)) (by omega) W hW)
    clear HADD hm1 h1 hb1 hl1 hP11 hP1b hP1 hk1'
    go_upto_region 3 with fail
    go_cut [4, 5] from 16 to 22 (fun s4 s5 wc => ∃ (z4 n2 : Nat) (M2 : Cells) (F2 : Nat → Prop), s4 = .pointer (some ⟨z4, 0, none⟩) ∧ s5 = .int .i64 0 ∧ C2 wc z4 54 (.int .i64 1) (.int .i64 (n2 : Nat)) ∧ LS w b bh 1 16384 z1 M2 F2 wc ∧ (1 ≤ n2 ∧ MapR 16384 M1 P1 hs 0 0 [((2, 2, ⟨#[]⟩), noV)] n2 M2) ∧ Own1 w F2 z1 bh z4 ∧ C2 wc z2 54 (.int .i64 1) (.int .i64 (n1 : Nat)) ∧ Own1 w F2 z1 bh z2 ∧ ¬ z2 = z4)
    case first =>
      have l0 : ∀ W', C2 W' z1 26 (ap b) (.pointer (some ⟨bh, 0, none⟩)) → W'.cell? ⟨z1, 0, none⟩ = some (ap b) := fun W' h => h.c0
      have l1 : ∀ W', C2 W' z1 26 (ap b) (.pointer (some ⟨bh, 0, none⟩)) → W'.cell? ⟨z1, 1, none⟩ = some (.pointer (some ⟨bh, 0, none⟩)) := fun W' h => h.c1
      refine wp_region_noPanic ?_
      refine wp_region_held_drew (S := (fun W' => C2 W' z1 26 (ap b) (.pointer (some ⟨bh, 0, none⟩)))) (by kernel_rfl) (ls.below (Below.refl _ _).drew).lb (fun hH => ?_)
      replace ls := ls.below (Below.refl _ wc).drew
      replace bz := bz.below (Below.refl _ wc).drew
      generalize wc.drew = Wc at ls bz hH ⊢
      refine tkH ?_ 0 hH ?_ ?_; rotate_left
      · intro W' hS; go_simp; with_reducible rfl
      simp only [tkr]
      refine tkH ?_ 1 hH ?_ ?_; rotate_left
      · intro W' hS; go_simp; with_reducible rfl
      simp only [tkr]
      refine wpAnyH_ready (rs := [2, 7]) (by kernel_rfl) (by simp) ?_
      refine AllReadyH.cons rfl (fun K hK => ?_) (AllReadyH.cons rfl (fun K hK => ?_) (AllReadyH.nil))
      · go_simp
        refine (lnumber 2 Wc).mono ?_
        rintro e Wc ⟨rfl, hbn⟩
        replace ls := ls.below hbn
        replace bz := bz.below hbn
        try replace mz := mz.below hbn
        clear hbn
        simp only
        refine hK.out _ _ ?_ (fun hH => ?_)
        · exact ls.lb
        clear hK K
        refine wpAnyH_ready (rs := [3, 7]) (by kernel_rfl) (by simp) ?_
        refine AllReadyH.cons rfl (fun K hK => ?_) (AllReadyH.cons rfl (fun K hK => ?_) (AllReadyH.nil))
        · go_simp
          refine (HADD2.out Wc ls).mono ?_
          rintro e Wc ⟨n2, M2, F2, rfl, ls1, hpt, hF2, hk1⟩
          try have hz4 := mz.lt
          have hzl := bz.lt
          replace bz := bz.kp hk1 (fun e => e.elim no.2.1 no.2.2.2)
          replace no := (show Own1 w F2 z1 bh z2 from ⟨no.1, hF2 z2 (hzl) no.2.1, no.2.2⟩)
          try replace mz := mz.kp hk1 (fun e => e.elim nz.2.1 nz.2.2.2)
          try replace nz := (show Own1 w F2 z1 bh z4 from ⟨nz.1, hF2 z4 hz4 nz.2.1, nz.2.2⟩)
          replace ls := ls1
          simp only
          refine hK.out _ _ ?_ (fun hH => ?_)
          · exact ls.lb
          clear hK K ls1 hF2 hk1
          refine tkH ?_ 4 hH ?_ ?_; rotate_left
          · intro W' hS; go_simp; with_reducible rfl
          simp only [tkr]
          refine tkH ?_ 5 hH ?_ ?_; rotate_left
          · intro W' hS; go_simp; with_reducible rfl
          simp only [tkr]
          refine tkH ?_ 6 hH ?_ ?_; rotate_left
          · intro W' hS; go_simp; with_reducible rfl
          simp only [tkr]
          refine rdH 7 rfl (fun K hK => ?_)
          go_simp
          have mz := C2.new Wc 54 (.int .i64 0) (.int .i64 0)
          have nz := ls.fresh
          have n24 : ¬ z2 = Wc.heap.size := fun e => absurd bz.lt (by rw [e]; exact Nat.lt_irrefl _)
          replace bz := bz.alloc (.cells #[.int .i64 0, .int .i64 0] 54)
          replace ls := ls.alloc (.cells #[.int .i64 0, .int .i64 0] 54)
          refine hK.out _ _ ?_ (fun hH => ?_)
          · exact ls.lb
          clear hK K
          generalize World.alloc _ _ = Wn at ls mz bz hH ⊢
          generalize Wc.heap.size = z4 at mz nz n24 ⊢
          rename World => Wc
          refine rdH 8 rfl (fun K hK => ?_)
          obtain ⟨c0, c1, f0, f1⟩ := mz.all
          go_simp
          clear c0 c1 f0 f1
          have kz : Kp (fun q => q = z4) Wc ((Wc.setCell ⟨z4, 0, none⟩ (.int .i64 1)).setCell ⟨z4, 1, none⟩ (.int .i64 (n2 : Nat))) := ((Kp.refl (fun q => q = z4) Wc).setCell (.inl rfl) _).setCell (.inl rfl) _
          replace ls := ls.kp kz (fun q e => by rw [e]; exact ⟨nz.1, nz.2.1, nz.2.2.2, fun e => nz.2.2.1 e.symm⟩)
          replace bz := bz.kp kz n24
          replace mz := (mz.set0 (.int .i64 1)).set1 (.int .i64 (n2 : Nat))
          refine hK.out _ _ ?_ (fun hH => ?_)
          · exact ls.lb
          clear hK K kz
          refine tkH ?_ 9 hH ?_ ?_; rotate_left
          · intro W' hS; go_simp; with_reducible rfl
          simp only [tkr]
          refine wpAnyH_done (by kernel_rfl) ?_ _
          refine NoPanic.normal ?_
          clear l0 l1
          go_wp2_with fail
          go_meet
          exact ⟨z4, n2, M2, F2, rfl, rfl, mz, ls, hpt, nz, bz, no, n24⟩
        · go_simp
          have mz := C2.new Wc 54 (.int .i64 0) (.int .i64 0)
          have nz := ls.fresh
          have n24 : ¬ z2 = Wc.heap.size := fun e => absurd bz.lt (by rw [e]; exact Nat.lt_irrefl _)
          replace bz := bz.alloc (.cells #[.int .i64 0, .int .i64 0] 54)
          replace ls := ls.alloc (.cells #[.int .i64 0, .int .i64 0] 54)
          refine hK.out _ _ ?_ (fun hH => ?_)
          · exact ls.lb
          clear hK K
          generalize World.alloc _ _ = Wn at ls mz bz hH ⊢
          generalize Wc.heap.size = z4 at mz nz n24 ⊢
          rename World => Wc
          refine rdH 3 rfl (fun K hK => ?_)
          go_simp
          refine (HADD2.out Wc ls).mono ?_
          rintro e Wc ⟨n2, M2, F2, rfl, ls1, hpt, hF2, hk1⟩
          try have hz4 := mz.lt
          have hzl := bz.lt
          replace bz := bz.kp hk1 (fun e => e.elim no.2.1 no.2.2.2)
          replace no := (show Own1 w F2 z1 bh z2 from ⟨no.1, hF2 z2 (hzl) no.2.1, no.2.2⟩)
          try replace mz := mz.kp hk1 (fun e => e.elim nz.2.1 nz.2.2.2)
          try replace nz := (show Own1 w F2 z1 bh z4 from ⟨nz.1, hF2 z4 hz4 nz.2.1, nz.2.2⟩)
          replace ls := ls1
          simp only
          refine hK.out _ _ ?_ (fun hH => ?_)
          · exact ls.lb
          clear hK K ls1 hF2 hk1
          refine tkH ?_ 4 hH ?_ ?_; rotate_left
          · intro W' hS; go_simp; with_reducible rfl
          simp only [tkr]
          refine tkH ?_ 5 hH ?_ ?_; rotate_left
          · intro W' hS; go_simp; with_reducible rfl
          simp only [tkr]
          refine tkH ?_ 6 hH ?_ ?_; rotate_left
          · intro W' hS; go_simp; with_reducible rfl
          simp only [tkr]
          refine rdH 8 rfl (fun K hK => ?_)
          obtain ⟨c0, c1, f0, f1⟩ := mz.all
          go_simp
          clear c0 c1 f0 f1
          have kz : Kp (fun q => q = z4) Wc ((Wc.setCell ⟨z4, 0, none⟩ (.int .i64 1)).setCell ⟨z4, 1, none⟩ (.int .i64 (n2 : Nat))) := ((Kp.refl (fun q => q = z4) Wc).setCell (.inl rfl) _).setCell (.inl rfl) _
          replace ls := ls.kp kz (fun q e => by rw [e]; exact ⟨nz.1, nz.2.1, nz.2.2.2, fun e => nz.2.2.1 e.symm⟩)
          replace bz := bz.kp kz n24
          replace mz := (mz.set0 (.int .i64 1)).set1 (.int .i64 (n2 : Nat))
          refine hK.out _ _ ?_ (fun hH => ?_)
          · exact ls.lb
          clear hK K kz
          refine tkH ?_ 9 hH ?_ ?_; rotate_left
          · intro W' hS; go_simp; with_reducible rfl
          simp only [tkr]
          refine wpAnyH_done (by kernel_rfl) ?_ _
          refine NoPanic.normal ?_
          clear l0 l1
          go_wp2_with fail
          go_meet
          exact ⟨z4, n2, M2, F2, rfl, rfl, mz, ls, hpt, nz, bz, no, n24⟩
      · go_simp
        have mz := C2.new Wc 54 (.int .i64 0) (.int .i64 0)
        have nz := ls.fresh
        have n24 : ¬ z2 = Wc.heap.size := fun e => absurd bz.lt (by rw [e]; exact Nat.lt_irrefl _)
        replace bz := bz.alloc (.cells #[.int .i64 0, .int .i64 0] 54)
        replace ls := ls.alloc (.cells #[.int .i64 0, .int .i64 0] 54)
        refine hK.out _ _ ?_ (fun hH => ?_)
        · exact ls.lb
        clear hK K
        generalize World.alloc _ _ = Wn at ls mz bz hH ⊢
        generalize Wc.heap.size = z4 at mz nz n24 ⊢
        rename World => Wc
        refine rdH 2 rfl (fun K hK => ?_)
        go_simp
        refine (lnumber 2 Wc).mono ?_
        rintro e Wc ⟨rfl, hbn⟩
        replace ls := ls.below hbn
        replace bz := bz.below hbn
        try replace mz := mz.below hbn
        clear hbn
        simp only
        refine hK.out _ _ ?_ (fun hH => ?_)
        · exact ls.lb
        clear hK K
        refine rdH 3 rfl (fun K hK => ?_)
        go_simp
        refine (HADD2.out Wc ls).mono ?_
        rintro e Wc ⟨n2, M2, F2, rfl, ls1, hpt, hF2, hk1⟩
        try have hz4 := mz.lt
        have hzl := bz.lt
        replace bz := bz.kp hk1 (fun e => e.elim no.2.1 no.2.2.2)
        replace no := (show Own1 w F2 z1 bh z2 from ⟨no.1, hF2 z2 (hzl) no.2.1, no.2.2⟩)
        try replace mz := mz.kp hk1 (fun e => e.elim nz.2.1 nz.2.2.2)
        try replace nz := (show Own1 w F2 z1 bh z4 from ⟨nz.1, hF2 z4 hz4 nz.2.1, nz.2.2⟩)
        replace ls := ls1
        simp only
        refine hK.out _ _ ?_ (fun hH => ?_)
        · exact ls.lb
        clear hK K ls1 hF2 hk1
        refine tkH ?_ 4 hH ?_ ?_; rotate_left
        · intro W' hS; go_simp; with_reducible rfl
        simp only [tkr]
        refine tkH ?_ 5 hH ?_ ?_; rotate_left
        · intro W' hS; go_simp; with_reducible rfl
        simp only [tkr]
        refine tkH ?_ 6 hH ?_ ?_; rotate_left
        · intro W' hS; go_simp; with_reducible rfl
        simp only [tkr]
        refine rdH 8 rfl (fun K hK => ?_)
        obtain ⟨c0, c1, f0, f1⟩ := mz.all
        go_simp
        clear c0 c1 f0 f1
        have kz : Kp (fun q => q = z4) Wc ((Wc.setCell ⟨z4, 0, none⟩ (.int .i64 1)).setCell ⟨z4, 1, none⟩ (.int .i64 (n2 : Nat))) := ((Kp.refl (fun q => q = z4) Wc).setCell (.inl rfl) _).setCell (.inl rfl) _
        replace ls := ls.kp kz (fun q e => by rw [e]; exact ⟨nz.1, nz.2.1, nz.2.2.2, fun e => nz.2.2.1 e.symm⟩)
        replace bz := bz.kp kz n24
        replace mz := (mz.set0 (.int .i64 1)).set1 (.int .i64 (n2 : Nat))
        refine hK.out _ _ ?_ (fun hH => ?_)
        · exact ls.lb
        clear hK K kz
        refine tkH ?_ 9 hH ?_ ?_; rotate_left
        · intro W' hS; go_simp; with_reducible rfl
        simp only [tkr]
        refine wpAnyH_done (by kernel_rfl) ?_ _
        refine NoPanic.normal ?_
        clear l0 l1
        go_wp2_with fail
        go_meet
        exact ⟨z4, n2, M2, F2, rfl, rfl, mz, ls, hpt, nz, bz, no, n24⟩
    case rest =>
      obtain ⟨z4, n2, M2, F2, rfl, rfl, bz4, ls, ⟨h2, hm2⟩, no4, bz, no, n24⟩ := hcut
      obtain ⟨h1, mp1, hl1, hP1b, hP11, hz1⟩ := MP1.out
      have ho : ∀ j, P1 j ≤ out1 P1 0 0 j := fun j => by unfold out1 addP; rw [if_pos rfl]; split <;> omega
      obtain ⟨P2, hP2⟩ : ∃ P2 : Nat → Nat, P2 = fun j => out1 P1 0 0 j + [n2].count j := ⟨_, rfl⟩
      have hP2b : ∀ j, P2 j ≤ 5 := fun j => by
        have e1 := out1_le P1 0 0 j
        have e2 : [n2].count j ≤ 1 := List.count_le_length
        have e3 := hP1b j
        rw [hP2]
        show out1 P1 0 0 j + [n2].count j ≤ 5
        omega
      have hP21 : 1 ≤ P2 n1 := by
        have e1 := ho n1
        rw [hP2]
        show 1 ≤ out1 P1 0 0 n1 + [n2].count n1
        omega
      have hP22 : 1 ≤ P2 n2 := by
        have e1 : [n2].count n2 = 1 := by simp
        rw [hP2]
        show 1 ≤ out1 P1 0 0 n2 + [n2].count n2
        omega
      have hb2 := hm2.held
      rw [← hP2] at hb2
      have hl2 : live (16384 + 1) M2 ≤ 32 := by have := hm2.live; omega
      have mp12 : Mp M2 hs n1 [((2, 1, ⟨#[]⟩), noV)] := mp1.pres hz1 (fun e => hm2.keeps n1 e (by have := ho n1; omega))
      have mp22 := hm2.mp
      obtain ⟨hL2, hLk⟩ := two_or hs (2, 1, ⟨#[]⟩) (2, 2, ⟨#[]⟩) (by decide)
      obtain ⟨L, hL⟩ : ∃ L, L = addAll hs (fun _ => true) ([((2, 1, ⟨#[]⟩) : Ky)] ++ [((2, 2, ⟨#[]⟩) : Ky)]) [] := ⟨_, rfl⟩
      rw [← hL] at hL2 hLk
      have HOR := Lib.hid (fun (W : World) (hW : LS w b bh 1 16384 z1 M2 F2 W) => (show Calls Tryz.prog 25 #[land b bh, .agg #[.int .i64 1, .int .i64 (n1 : Nat)], .agg #[.int .i64 1, .int .i64 (n2 : Nat)]] W fun e W' => ∃ (n3 : Nat) (M3 : Cells) (F3 : Nat → Prop), e = .returned (.tuple #[.agg #[.int .i64 2, .int .i64 (n3 : Nat)], .int .i64 0]) ∧ LS w b bh 1 16384 z1 M3 F3 W' ∧ (Mp M3 hs n1 [((2, 1, ⟨#[]⟩), noV)] ∧ Mp M3 hs n3 L) ∧ (∀ q, q < W.heap.size → ¬ F2 q → ¬ F3 q) ∧ Kp (fun q => F2 q ∨ q = bh) W W' from by
        refine (vOr (la := [((2, 1, ⟨#[]⟩), noV)]) (lb := [((2, 2, ⟨#[]⟩), noV)]) (ra := n1) (rb := n2) (P := P2) (hs := hs) W hW.ar (by decide) (fun j => Nat.le_trans (hP2b j) (by decide)) hb2 hW.hh hW.nb HHS.out (.inr hP21) (.inr hP22) mp12 mp22 (fun q hq => by rw [List.mem_singleton.1 hq]; exact ok1) (fun q hq => by rw [List.mem_singleton.1 hq]; exact ok2) (by decide)).mono ?_
        rintro e W' ⟨N, n, er, rfl, ⟨n3, M3, F3, ⟨e1, e2, e3⟩, hr, hmp⟩ | ⟨M3, F3, _, hfull, _⟩⟩
        · subst e1 e2 e3
          have hmp2 : Mp M3 hs n3 L := by rw [hL]; exact hmp
          refine ⟨n3, M3, F3, ?_, (hW.from hr).1, ⟨mp12.pres hW.ar.zero (fun e => hr.keeps n1 e hP21), hmp2⟩, (hW.from hr).2, hr.kp⟩
          have : (addAll hs (fun _ => true) (List.map Prod.fst [(((2, 1, ⟨#[]⟩) : Ky), noV)] ++ List.map Prod.fst [(((2, 2, ⟨#[]⟩) : Ky), noV)]) []).length = 2 := by
            rw [hL] at hL2
            exact hL2
          rw [this]
          rfl
        · exfalso
          have : [(((2, 1, ⟨#[]⟩) : Ky), noV)].length + [(((2, 2, ⟨#[]⟩) : Ky), noV)].length = 2 := rfl
          omega))
      have LL := Lib.hid (And.intro hL2 hLk)
      clear MP1 HADD2 hb2 mp12 mp22 hP2 hP2b hP21 hP22 hm2 hl2 h1 h2 mp1 hl1 hP1b hP11 hz1 ho hL hL2 hLk
      have S := Lib.hid (And.intro ls (And.intro bz4 (And.intro no4 (And.intro bz (And.intro no n24)))))
      obtain ⟨x0, x1, _⟩ := S.out.1.lb.all
      obtain ⟨x2, x3, _⟩ := S.out.2.1.all
      obtain ⟨x4, x5, _⟩ := S.out.2.2.2.1.all
      clear ls bz4 no4 bz no n24
      go_wp2_with fail
      refine (HOR.out wc S.out.1).mono ?_
      rintro e w6 ⟨n3, M3, F3, rfl, ls, hmp, hF3, hk6⟩
      have bz := S.out.2.2.2.1.kp hk6 (fun e => e.elim S.out.2.2.2.2.1.2.1 S.out.2.2.2.2.1.2.2.2)
      have MP := Lib.hid hmp
      have hn6 : w6.heap.size ≠ bh ∧ z2 ≠ bh := ⟨ls.fresh.2.2.2, S.out.2.2.2.2.1.2.2.2⟩
      have NE := Lib.hid hn6
      clear x0 x1 x2 x3 x4 x5 S hmp hF3 hk6 HOR hn6
      have ls7 := ls.alloc (.cells #[.int .i64 2, .int .i64 (n3 : Nat)] 54)
      have bz7 := bz.alloc (.cells #[.int .i64 2, .int .i64 (n3 : Nat)] 54)
      have b67 := C2.new w6 54 (.int .i64 2) (.int .i64 (n3 : Nat))
      have S7 := Lib.hid (And.intro ls7 (And.intro bz7 b67))
      clear ls bz ls7 bz7 b67
      go_upto_region 5 with fail
      generalize w6.alloc (.cells #[.int .i64 2, .int .i64 (n3 : Nat)] 54) = w7 at S7 ⊢
      generalize w6.heap.size = z6 at S7 NE ⊢
      obtain ⟨ls, bz, b6⟩ := S7.out
      clear S7
      have l0 : ∀ W', (C2 W' z1 26 (ap b) (.pointer (some ⟨bh, 0, none⟩)) ∧ C2 W' z6 54 (.int .i64 2) (.int .i64 (n3 : Nat)) ∧ C2 W' z2 54 (.int .i64 1) (.int .i64 (n1 : Nat))) → W'.cell? ⟨z1, 0, none⟩ = some (ap b) := fun W' h => h.1.c0
      have l1 : ∀ W', (C2 W' z1 26 (ap b) (.pointer (some ⟨bh, 0, none⟩)) ∧ C2 W' z6 54 (.int .i64 2) (.int .i64 (n3 : Nat)) ∧ C2 W' z2 54 (.int .i64 1) (.int .i64 (n1 : Nat))) → W'.cell? ⟨z1, 1, none⟩ = some (.pointer (some ⟨bh, 0, none⟩)) := fun W' h => h.1.c1
      have l2 : ∀ W', (C2 W' z1 26 (ap b) (.pointer (some ⟨bh, 0, none⟩)) ∧ C2 W' z6 54 (.int .i64 2) (.int .i64 (n3 : Nat)) ∧ C2 W' z2 54 (.int .i64 1) (.int .i64 (n1 : Nat))) → W'.cell? ⟨z6, 0, none⟩ = some (.int .i64 2) := fun W' h => h.2.1.c0
      have l3 : ∀ W', (C2 W' z1 26 (ap b) (.pointer (some ⟨bh, 0, none⟩)) ∧ C2 W' z6 54 (.int .i64 2) (.int .i64 (n3 : Nat)) ∧ C2 W' z2 54 (.int .i64 1) (.int .i64 (n1 : Nat))) → W'.cell? ⟨z6, 1, none⟩ = some (.int .i64 (n3 : Nat)) := fun W' h => h.2.1.c1
      have l4 : ∀ W', (C2 W' z1 26 (ap b) (.pointer (some ⟨bh, 0, none⟩)) ∧ C2 W' z6 54 (.int .i64 2) (.int .i64 (n3 : Nat)) ∧ C2 W' z2 54 (.int .i64 1) (.int .i64 (n1 : Nat))) → W'.cell? ⟨z2, 0, none⟩ = some (.int .i64 1) := fun W' h => h.2.2.c0
      have l5 : ∀ W', (C2 W' z1 26 (ap b) (.pointer (some ⟨bh, 0, none⟩)) ∧ C2 W' z6 54 (.int .i64 2) (.int .i64 (n3 : Nat)) ∧ C2 W' z2 54 (.int .i64 1) (.int .i64 (n1 : Nat))) → W'.cell? ⟨z2, 1, none⟩ = some (.int .i64 (n1 : Nat)) := fun W' h => h.2.2.c1
      have hn6 : z6 ≠ bh ∧ z2 ≠ bh := NE.out
      refine wp_region_noPanic ?_
      refine wp_region_held_drew (S := (fun W' => C2 W' z1 26 (ap b) (.pointer (some ⟨bh, 0, none⟩)) ∧ C2 W' z6 54 (.int .i64 2) (.int .i64 (n3 : Nat)) ∧ C2 W' z2 54 (.int .i64 1) (.int .i64 (n1 : Nat)))) (by kernel_rfl) ⟨(ls.below (Below.refl _ _).drew).lb, b6.below (Below.refl _ _).drew, bz.below (Below.refl _ _).drew⟩ (fun hH => ?_)
      replace ls := ls.below (Below.refl _ w7).drew
      replace bz := bz.below (Below.refl _ w7).drew
      replace b6 := b6.below (Below.refl _ w7).drew
      generalize w7.drew = Wc at ls bz b6 hH ⊢
      refine tkH ?_ 0 hH ?_ ?_; rotate_left
      · intro W' hS; go_simp; with_reducible rfl
      simp only [tkr]
      refine tkH ?_ 1 hH ?_ ?_; rotate_left
      · intro W' hS; go_simp; with_reducible rfl
      simp only [tkr]
      refine rdH 2 rfl (fun K hK => ?_)
      go_simp
      have hvv := vValues b bh 2 n3 Wc
      have e1 : ∀ (yl ys : Nat) (W : World), Sem.run Tryz.prog (binOp .neq 81 (seqs yl ys) .nilFunc) W = .ok (.bool true) W := fun _ _ _ => by kernel_rfl
      refine hvv.mono ?_
      clear hvv
      rintro e Wc ⟨zl, zs, rfl, _, _, _, _, hbn⟩
      replace ls := ls.below hbn
      replace bz := bz.below hbn
      replace b6 := b6.below hbn
      clear hbn
      simp only
      refine hK.out _ _ ?_ (fun hH => ?_)
      · exact ⟨ls.lb, b6, bz⟩
      clear hK K
      refine tkH ?_ 3 hH ?_ ?_; rotate_left
      · intro W' hS; go_simp; with_reducible rfl
      simp only [tkr]
      refine tkH ?_ 4 hH ?_ ?_; rotate_left
      · intro W' hS; go_simp; with_reducible rfl
      simp only [tkr]
      refine tkH ?_ 5 hH ?_ ?_; rotate_left
      · intro W' hS; go_simp; with_reducible rfl
      simp only [tkr]
      refine tkH ?_ 6 hH ?_ ?_; rotate_left
      · intro W' hS; go_simp; with_reducible rfl
      simp only [tkr]
      refine tkH ?_ 7 hH ?_ ?_; rotate_left
      · intro W' hS; go_simp; with_reducible rfl
      simp only [tkr]
      refine tkH ?_ 8 hH ?_ ?_; rotate_left
      · intro W' hS; go_simp; with_reducible rfl
      simp only [tkr]
      refine tkH ?_ 9 hH ?_ ?_; rotate_left
      · intro W' hS; go_simp; with_reducible rfl
      simp only [tkr]
      refine tkH ?_ 10 hH ?_ ?_; rotate_left
      · intro W' hS; go_simp; with_reducible rfl
      simp only [tkr]
      refine tkH ?_ 11 hH ?_ ?_; rotate_left
      · intro W' hS; go_simp; with_reducible rfl
      simp only [tkr]
      refine tkH ?_ 12 hH ?_ ?_; rotate_left
      · intro W' hS; go_simp; with_reducible rfl
      simp only [tkr]
      refine tkH ?_ 13 hH ?_ ?_; rotate_left
      · intro W' hS; go_simp; with_reducible rfl
      simp only [tkr]
      refine tkH ?_ 14 hH ?_ ?_; rotate_left
      · intro W' hS; go_simp; with_reducible rfl
      simp only [tkr]
      refine tkH ?_ 15 hH ?_ ?_; rotate_left
      · intro W' hS; go_simp; with_reducible rfl
      simp only [tkr]
      refine tkH ?_ 16 hH ?_ ?_; rotate_left
      · intro W' hS; go_simp; with_reducible rfl
      simp only [tkr]
      refine tkH ?_ 17 hH ?_ ?_; rotate_left
      · intro W' hS; go_simp; with_reducible rfl
      simp only [tkr]
      refine tkH ?_ 18 hH ?_ ?_; rotate_left
      · intro W' hS; go_simp; with_reducible rfl
      simp only [tkr]
      refine tkH ?_ 19 hH ?_ ?_; rotate_left
      · intro W' hS; go_simp; with_reducible rfl
      simp only [tkr]
      refine tkH ?_ 20 hH ?_ ?_; rotate_left
      · intro W' hS; go_simp; with_reducible rfl
      simp only [tkr]
      refine tkH ?_ 21 hH ?_ ?_; rotate_left
      · intro W' hS; go_simp; with_reducible rfl
      simp only [tkr]
      refine tkH ?_ 22 hH ?_ ?_; rotate_left
      · intro W' hS; go_simp; with_reducible rfl
      simp only [tkr]
      refine tkH ?_ 23 hH ?_ ?_; rotate_left
      · intro W' hS; go_simp; with_reducible rfl
      simp only [tkr]
      refine tkH ?_ 24 hH ?_ ?_; rotate_left
      · intro W' hS; go_simp; with_reducible rfl
      simp only [tkr]
      refine rdH 25 rfl (fun K hK => ?_)
      go_simp
      refine (lnumber 2 Wc).mono ?_
      rintro e Wc ⟨rfl, hbn⟩
      replace ls := ls.below hbn
      replace bz := bz.below hbn
      replace b6 := b6.below hbn
      clear hbn
      simp only
      refine hK.out _ _ ?_ (fun hH => ?_)
      · exact ⟨ls.lb, b6, bz⟩
      clear hK K
      refine rdH 26 rfl (fun K hK => ?_)
      go_simp
      have hv := vHas (l := L) b bh 1 n3 2 (2, 2, ⟨#[]⟩) Wc ls.ar ls.ar.zero MP.out.2 ls.hh ls.nb HHS.out ok2 (by have := LL.out.1; omega)
      rw [LL.out.2] at hv
      refine hv.mono ?_
      clear hv
      rintro e Wc ⟨rfl, hkn, hhn⟩
      replace ls := ls.hash hkn hhn
      replace bz := bz.kp hkn hn6.2
      replace b6 := b6.kp hkn hn6.1
      clear hkn hhn
      simp only
      refine hK.out _ _ ?_ (fun hH => ?_)
      · exact ⟨ls.lb, b6, bz⟩
      clear hK K
      refine tkH ?_ 27 hH ?_ ?_; rotate_left
      · intro W' hS; go_simp; with_reducible rfl
      simp only [tkr]
      refine tkH ?_ 28 hH ?_ ?_; rotate_left
      · intro W' hS; go_simp; with_reducible rfl
      simp only [tkr]
      refine tkH ?_ 29 hH ?_ ?_; rotate_left
      · intro W' hS; go_simp; with_reducible rfl
      simp only [tkr]
      refine tkH ?_ 30 hH ?_ ?_; rotate_left
      · intro W' hS; go_simp; with_reducible rfl
      simp only [tkr]
      refine rdH 31 rfl (fun K hK => ?_)
      go_simp
      refine (lnumber 2 Wc).mono ?_
      rintro e Wc ⟨rfl, hbn⟩
      replace ls := ls.below hbn
      replace bz := bz.below hbn
      replace b6 := b6.below hbn
      clear hbn
      simp only
      refine hK.out _ _ ?_ (fun hH => ?_)
      · exact ⟨ls.lb, b6, bz⟩
      clear hK K
      refine rdH 32 rfl (fun K hK => ?_)
      go_simp
      have hv := vHas (l := [((2, 1, ⟨#[]⟩), noV)]) b bh 1 n1 1 (2, 2, ⟨#[]⟩) Wc ls.ar ls.ar.zero MP.out.1 ls.hh ls.nb HHS.out ok2 (by decide)
      rw [show hasB (2, 2, ⟨#[]⟩) [(((2, 1, ⟨#[]⟩) : Ky), noV)] = false from by unfold hasB; simp] at hv
      refine hv.mono ?_
      clear hv
      rintro e Wc ⟨rfl, hkn, hhn⟩
      replace ls := ls.hash hkn hhn
      replace bz := bz.kp hkn hn6.2
      replace b6 := b6.kp hkn hn6.1
      clear hkn hhn
      simp only
      refine hK.out _ _ ?_ (fun hH => ?_)
      · exact ⟨ls.lb, b6, bz⟩
      clear hK K
      refine tkH ?_ 33 hH ?_ ?_; rotate_left
      · intro W' hS; go_simp; with_reducible rfl
      simp only [tkr]
      refine tkH ?_ 34 hH ?_ ?_; rotate_left
      · intro W' hS; go_simp; with_reducible rfl
      simp only [tkr]
      refine tkH ?_ 35 hH ?_ ?_; rotate_left
      · intro W' hS; go_simp; with_reducible rfl
      simp only [tkr]
      refine wpAnyH_done (by kernel_rfl) ?_ _
      refine NoPanic.normal ?_
      clear l0 l1 l2 l3 l4 l5
      have BEL := Lib.hid ls.bel
      clear ls bz b6
      go_wp2_with fail
      go_ret
      exact ⟨rfl, BEL.out⟩
end
end Go.Proofs.YtdddhmipifkepaaGreat

namespace Go.Proofs.YtdddhmipifkepaaGreat
set_option maxRecDepth 100000
set_option linter.unusedSimpArgs false
set_option linter.unusedVariables false
open Go.RowKit Go.Shelf
section
end
end Go.Proofs.YtdddhmipifkepaaGreat

namespace Go.Proofs.YtdddhmipifkepaaGreat
set_option maxRecDepth 100000
set_option linter.unusedSimpArgs false
set_option linter.unusedVariables false
open Go.RowKit Go.Shelf
attribute [local go_sem] Oper.semAt_some
theorem addAll_srt {hs : Ky → Nat} {wb : Ky → Bool} : ∀ (ks : List Ky) {L : List Pr}, Srt hs L → Srt hs (addAll hs wb ks L) ∧ ∀ q, (q ∈ addAll hs wb ks L ↔ (q.2 = noV ∧ q.1 ∈ ks ∧ wb q.1 = true) ∨ (q ∈ L ∧ (q.1 ∈ ks → wb q.1 = false)))
  | [], L, h => ⟨h, fun q => by simp [addAll]⟩
  | k :: ks, L, h => by
    have e : addAll hs wb (k :: ks) L = addAll hs wb ks (if wb k then putL hs (k, noV) L else L) := rfl
    cases hk : wb k
    · rw [e, hk]
      obtain ⟨h1, h2⟩ := addAll_srt ks h (wb := wb)
      refine ⟨h1, fun q => (h2 q).trans ?_⟩
      constructor
      · rintro (⟨a, b, c⟩ | ⟨a, b⟩)
        · exact .inl ⟨a, List.mem_cons_of_mem _ b, c⟩
        · exact .inr ⟨a, fun hm => (List.mem_cons.1 hm).elim (fun e => by rw [e]; exact hk) b⟩
      · rintro (⟨a, b, c⟩ | ⟨a, b⟩)
        · exact .inl ⟨a, (List.mem_cons.1 b).elim (fun e => by rw [e, hk] at c; cases c) id, c⟩
        · exact .inr ⟨a, fun hm => b (List.mem_cons_of_mem _ hm)⟩
    · rw [e, hk]
      obtain ⟨p1, p2⟩ := putL_spec (p := (k, noV)) h
      obtain ⟨h1, h2⟩ := addAll_srt ks p1 (wb := wb)
      refine ⟨h1, fun q => (h2 q).trans ?_⟩
      constructor
      · rintro (⟨a, b, c⟩ | ⟨a, b⟩)
        · exact .inl ⟨a, List.mem_cons_of_mem _ b, c⟩
        · rcases (p2 q).1 a with rfl | ⟨c, d⟩
          · exact .inl ⟨rfl, List.mem_cons_self, hk⟩
          · exact .inr ⟨c, fun hm => (List.mem_cons.1 hm).elim (fun e => absurd e d) b⟩
      · rintro (⟨a, b, c⟩ | ⟨a, b⟩)
        · rcases List.mem_cons.1 b with e | b
          · by_cases hm : q.1 ∈ ks
            · exact .inl ⟨a, hm, c⟩
            · refine .inr ⟨(p2 q).2 (.inl ?_), fun h => absurd h hm⟩
              rw [← e, ← a]
          · exact .inl ⟨a, b, c⟩
        · have hq : q.1 ≠ k := fun e2 => by
            have := b (List.mem_cons.2 (.inl e2))
            rw [e2, hk] at this
            cases this
          exact .inr ⟨(p2 q).2 (.inr ⟨a, hq⟩), fun hm => b (List.mem_cons_of_mem _ hm)⟩
theorem Lst.take {w : World} {A : Option Addr} {l : List Ky} (h : Lst w A l) (n : Nat) : Lst w A (l.take n) := by
  rcases h with h | ⟨b, o, hA, hb, hc⟩
  · exact .inl (by rw [h]; simp)
  · refine .inr ⟨b, o, hA, hb, fun i x hx => hc i x ?_⟩
    rw [List.getElem?_take] at hx
    split at hx
    · exact hx
    · cases hx
theorem bk_nobody {most : Nat} {M : Cells} (h : Bk (most + 1) M [] (fun _ => 0) []) : live (most + 1) M = 0 := by
  have e := h.ok.nobody (fun i => by simp)
  rw [blank_nil] at e
  exact live_zero e
theorem right10_all {l : List Ky} (h : right10 l = true) : (∀ k ∈ l, ok10 k = true) ∧ l.length ≤ 120 := by
  unfold right10 at h
  rw [Bool.and_eq_true, List.all_eq_true] at h
  exact ⟨h.1, by simpa using h.2⟩
theorem addAll_len {hs : Ky → Nat} {wb : Ky → Bool} : ∀ (ks : List Ky) {L : List Pr}, Srt hs L → (addAll hs wb ks L).length ≤ L.length + ks.length
  | [], L, _ => Nat.le_refl _
  | k :: ks, L, h => by
    have e : addAll hs wb (k :: ks) L = addAll hs wb ks (if wb k then putL hs (k, noV) L else L) := rfl
    rw [e]
    cases wb k
    · have := addAll_len ks h (wb := wb)
      simp only [Bool.false_eq_true, if_false, List.length_cons] at this ⊢
      omega
    · have h1 := addAll_len ks (putL_spec (p := (k, noV)) h).1 (wb := wb)
      have h2 := putL_length (p := (k, noV)) h
      have h3 : (putL hs (k, noV) L).length ≤ L.length + 1 := by rw [h2]; split <;> omega
      simp only [if_true, List.length_cons] at h1 ⊢
      omega
structure Ub (w : World) (b bh seed n0 z9 z11 z13 : Nat) (M : Cells) (F : Nat → Prop) (N n t : Nat) (W : World) : Prop where
  ls : LS w b bh seed n0 z9 M F W
  mz : C2 W z11 54 (.int .i64 (N : Int)) (.int .i64 (n : Int))
  cz : C1 W z13 3 (.int .i64 (t : Int))
theorem Ub.kp {w W W' : World} {b bh seed n0 z9 z11 z13 N n t : Nat} {M : Cells} {F G : Nat → Prop} (h : Ub w b bh seed n0 z9 z11 z13 M F N n t W) (hk : Kp G W W') (hG : ∀ q, G q → w.heap.size ≤ q ∧ ¬ F q ∧ q ≠ bh ∧ q ≠ z9 ∧ q ≠ z11 ∧ q ≠ z13) : Ub w b bh seed n0 z9 z11 z13 M F N n t W' :=
  ⟨h.ls.kp hk (fun q hq => ⟨(hG q hq).1, (hG q hq).2.1, (hG q hq).2.2.1, (hG q hq).2.2.2.1⟩), h.mz.kp hk (fun hq => (hG _ hq).2.2.2.2.1 rfl), h.cz.kp hk (fun hq => (hG _ hq).2.2.2.2.2 rfl)⟩
theorem Ub.below {w W W' : World} {b bh seed n0 z9 z11 z13 N n t : Nat} {M : Cells} {F : Nat → Prop} (h : Ub w b bh seed n0 z9 z11 z13 M F N n t W) (hb : Below W.heap.size W W') : Ub w b bh seed n0 z9 z11 z13 M F N n t W' := ⟨h.ls.below hb, h.mz.below hb, h.cz.below hb⟩
section
end
end Go.Proofs.YtdddhmipifkepaaGreat

/- Several texts in one. -/
import Derived.Test.YtghbbpbhbinioaaGreatMr20
import Derived.Test.YtghbbpbhbinioaaGreatMr22
import Derived.Test.YtghbbpbhbinioaaGreatMr09
import Derived.Test.YtghbbpbhbinioaaGreatMr11
set_option linter.unusedSimpArgs false
namespace Go.Proofs.YtghbbpbhbinioaaGreat
set_option maxRecDepth 100000
set_option linter.unusedSimpArgs false
set_option linter.unusedVariables false
open Go.RowKit Go.Shelf
set_option maxHeartbeats 1600000 in
theorem lland11 (seed room : Nat) (w : World) (h1 : 1 ≤ room) (h2 : room ≤ 1048576) :
    Calls Tryz.prog 33 #[.int .u64 seed, .int .i64 (room : Nat)] w fun e w' => ∃ b bh, e = .returned (land b bh) ∧ Ar w' b room (fun _ => none) (fun k => k = b) ∧ Hs w' bh seed ∧ b ≠ bh ∧ w.heap.size ≤ b ∧ w.heap.size ≤ bh ∧ Below w.heap.size w w' := by
  have HN := Lib.hid (anew room (w.alloc (.cells #[.pointer none, .pointer none] 26)) h1 h2)
  have hb : Below w.heap.size w (w.alloc (.cells #[.pointer none, .pointer none] 26)) := (Below.refl _ w).alloc (Nat.le_refl _) _
  have q4 := C2.new w 26 (.pointer none) (.pointer none)
  have hsz : (w.alloc (.cells #[.pointer none, .pointer none] 26)).heap.size = w.heap.size + 1 := by simp
  have HX := Lib.hid (And.intro q4 (And.intro hb hsz))
  clear hb q4 hsz h1 h2
  go_enter Tryz.func33, Tryz.ntmps33
  go_wp2_with fail
  refine HN.out.mono ?_
  rintro e w1 ⟨rfl, ha, hb1⟩
  have H1 := Lib.hid (And.intro ha hb1)
  clear ha hb1
  go_wp2_with fail
  refine (hnew seed w1).mono ?_
  rintro e w2 ⟨rfl, hh, hg⟩
  have hz := HX.out.2.2
  have hs1 := H1.out.2.size
  have q4 := (HX.out.1.below H1.out.2).below hg.below
  obtain ⟨r0, r1, g0, g1⟩ := q4.all
  have FIN := Lib.hid (fun w9 (h9 : Kp (fun q => q = w.heap.size) w2 w9) => (show Ar w9 (w.heap.size + 1) room (fun _ => none) (fun k => k = w.heap.size + 1) ∧ Hs w9 w1.heap.size seed ∧ w.heap.size + 1 ≠ w1.heap.size ∧ w.heap.size ≤ w.heap.size + 1 ∧ w.heap.size ≤ w1.heap.size ∧ Below w.heap.size w w9 from by
    have ha := H1.out.1
    rw [hz] at ha
    have hbl := ha.blt
    exact ⟨(ha.below hg.below).kp h9 (fun q e e2 => by omega), hh.kp h9 (by omega), by omega, by omega, by omega, below_kp ((HX.out.2.1.trans (H1.out.2.mono HX.out.2.1.size)).trans (hg.below.mono (by omega))) h9 (fun q e => by omega)⟩))
  clear q4 hh hg hz hs1
  go_wp2_with fail
  refine bodyPost_ret (v := land (w.heap.size + 1) w1.heap.size) (by simp [results, Tryz.results33, go_sem, r0, r1]) rfl ⟨_, _, rfl, FIN.out _ ?_⟩
  repeat first
    | with_reducible exact Kp.refl _ _
    | with_reducible refine Kp.setCell ?_ (by simp) _
def Own11 (w : World) (F : Nat → Prop) (z1 bh z : Nat) : Prop := w.heap.size ≤ z ∧ ¬ F z ∧ ¬ z1 = z ∧ ¬ z = bh
theorem LS.fresh11 {w W : World} {b bh seed most z1 : Nat} {M : Cells} {F : Nat → Prop} (h : LS w b bh seed most z1 M F W) : Own11 w F z1 bh W.heap.size :=
  ⟨h.bel.size, fun hf => absurd (h.ar.lt hf) (Nat.lt_irrefl _), fun e => absurd h.lb.lt (by rw [e]; exact Nat.lt_irrefl _), fun e => absurd h.hh.lt (by rw [← e]; exact Nat.lt_irrefl _)⟩
theorem put11 {b bh z1 most : Nat} {M : Cells} {P : Nat → Nat} {F : Nat → Prop} {w : World} (seed root : Nat) (ow : Int) (k v : Ky) (l : List Pr) (hm : most ≤ 1048576) (hk : OkK k) (hb : Bk (most + 1) M [] P [root]) (hP : ∀ j, P j ≤ 1000000) (hT : TT M root l) (hl : l.length ≤ 900) (hroom : live (most + 1) M + (l.length + 1) ≤ most) (W : World) (h : LS w b bh seed most z1 M F W) :
    Calls Tryz.prog 39 #[land b bh, .agg #[.int .i64 (l.length : Nat), .int .i64 (root : Nat)], xagg k, xagg v, .int .u32 ow] W fun e W' => ∃ (n : Nat) (M' : Cells) (F' : Nat → Prop), e = .returned (.tuple #[.agg #[.int .i64 ((putL h0 (k, v) l).length : Nat), .int .i64 (n : Nat)], .int .i64 0]) ∧ LS w b bh seed most z1 M' F' W' ∧ TRes most M P root ow (putL h0 (k, v) l) (l.length + 1) n M' ∧ (∀ q, q < W.heap.size → ¬ F q → ¬ F' q) ∧ Kp (fun q => F q ∨ q = bh) W W' := by
  refine (tPut b bh seed root k v ow l P W h.ar hm hb (fun j => by have := hP j; omega) hT h.hh h.nb hk hl (.inr hroom)).mono ?_
  rintro e W' ⟨N, n, er, rfl, hR⟩
  rcases hR with ⟨m, M', rfl, rfl, rfl, hT', hS⟩ | ⟨_, _, _, _, h5, _⟩
  · exact ⟨m, M', _, rfl, h.put hS, hT', fun q hq hf hf2 => hf2.elim hf (fun e => by omega), hS.kp⟩
  · omega
theorem two11 (v v' : Ky) : putL h0 ((2, 1, ⟨#[]⟩), v) [((2, 2, ⟨#[]⟩), v')] = [((2, 1, ⟨#[]⟩), v), ((2, 2, ⟨#[]⟩), v')] := by
  have h : Srt h0 ([] ++ [((2, 2, ⟨#[]⟩), v')]) := List.pairwise_singleton _ _
  exact (put_mid (k := (2, 1, ⟨#[]⟩)) (v := v) h (fun p hp => by cases hp) (fun p hp => by
    rw [List.mem_singleton] at hp
    subst hp
    exact h0_klt.2 (show vc (2, 1, ⟨#[]⟩) (2, 2, ⟨#[]⟩) = -1 by decide))).symm
section
set_option maxHeartbeats 6000000 in
theorem llives11 (w : World) : Calls Tryz.prog 32 #[] w fun e w' => e = .returned (.bool true) ∧ Below w.heap.size w w' := by
  have ok1 : OkK (2, 1, ⟨#[]⟩) := by decide
  have ok2 : OkK (2, 2, ⟨#[]⟩) := by decide
  have HL := Lib.hid (lland11 1 50 w (by decide) (by decide))
  go_enter Tryz.func32, Tryz.ntmps32
  go_wp2_with fail
  refine HL.out.mono ?_
  rintro e w1 ⟨b, bh, rfl, ha, hh, hne, hb0, hbh, hbl⟩
  have LB := Lib.hid (And.intro ha (And.intro hh (And.intro hne (And.intro hb0 (And.intro hbh hbl)))))
  have hbb := ha.blt
  have hhb := hh.lt
  clear ha hh hne hb0 hbh hbl HL
  go_upto_region 2 with fail
  have ls : LS w b bh 1 50 w1.heap.size (fun _ => none) (fun k => k = b) (w1.alloc (.cells #[ap b, .pointer (some ⟨bh, 0, none⟩)] 26)) := by
    obtain ⟨ha, hh, hne, hb0, hbh, hbl⟩ := LB.out
    exact ⟨ha.alloc _, hh.alloc _, fun e => hne e.symm, C2.new _ _ _ _, ⟨fun e => by omega, by omega⟩, hbl.alloc hbl.size _, fun q e => by omega, ⟨hbl.size, hbh⟩⟩
  clear hbb hhb
  generalize w1.alloc (.cells #[ap b, .pointer (some ⟨bh, 0, none⟩)] 26) = w2 at ls ⊢
  generalize w1.heap.size = z1 at ls ⊢
  have HPUT := Lib.hid (fun (W : World) (h : LS w b bh 1 50 z1 (fun _ => none) (fun k => k = b) W) => put11 (P := fun _ => 0) 1 0 0 (2, 2, ⟨#[]⟩) noV [] (by decide) ok2 (bk0 50) (fun _ => by decide) .nil (by decide) (by rw [live_zero (fun _ => rfl)]; decide) W h)
  go_cut [2, 3] from 8 to 15 (fun s2 s3 wc => ∃ (z2 n : Nat) (M' : Cells) (F' : Nat → Prop), s2 = .pointer (some ⟨z2, 0, none⟩) ∧ s3 = .int .i64 0 ∧ C2 wc z2 72 (.int .i64 1) (.int .i64 (n : Nat)) ∧ LS w b bh 1 50 z1 M' F' wc ∧ TRes 50 (fun _ => none) (fun _ => 0) 0 0 [((2, 2, ⟨#[]⟩), noV)] 1 n M' ∧ Own11 w F' z1 bh z2)
  case first =>
    have l0 : ∀ W', C2 W' z1 26 (ap b) (.pointer (some ⟨bh, 0, none⟩)) → W'.cell? ⟨z1, 0, none⟩ = some (ap b) := fun W' h => h.c0
    have l1 : ∀ W', C2 W' z1 26 (ap b) (.pointer (some ⟨bh, 0, none⟩)) → W'.cell? ⟨z1, 1, none⟩ = some (.pointer (some ⟨bh, 0, none⟩)) := fun W' h => h.c1
    refine wp_region_noPanic ?_
    refine wp_region_held_drew (S := (fun W' => C2 W' z1 26 (ap b) (.pointer (some ⟨bh, 0, none⟩)))) (by kernel_rfl) (ls.below (Below.refl _ w2).drew).lb (fun hH => ?_)
    replace ls := ls.below (Below.refl _ w2).drew
    generalize w2.drew = Wc at ls hH ⊢
    refine tkH ?_ 0 hH ?_ ?_; rotate_left
    · intro W' hS; go_simp; with_reducible rfl
    simp only [tkr]
    refine tkH ?_ 1 hH ?_ ?_; rotate_left
    · intro W' hS; go_simp; with_reducible rfl
    simp only [tkr]
    refine tkH ?_ 3 hH ?_ ?_; rotate_left
    · intro W' hS; go_simp; with_reducible rfl
    simp only [tkr]
    refine wpAnyH_ready (rs := [2, 8]) (by kernel_rfl) (by simp) ?_
    refine AllReadyH.cons rfl (fun K hK => ?_) (AllReadyH.cons rfl (fun K hK => ?_) (AllReadyH.nil))
    · go_simp
      refine (lnumber 2 Wc).mono ?_
      rintro e Wc ⟨rfl, hbn⟩
      replace ls := ls.below hbn
      try replace mz := mz.below hbn
      clear hbn
      simp only
      refine hK.out _ _ ?_ (fun hH => ?_)
      · exact ls.lb
      clear hK K
      refine wpAnyH_ready (rs := [4, 8]) (by kernel_rfl) (by simp) ?_
      refine AllReadyH.cons rfl (fun K hK => ?_) (AllReadyH.cons rfl (fun K hK => ?_) (AllReadyH.nil))
      · go_simp
        refine (HPUT.out Wc ls).mono ?_
        rintro e Wc ⟨n, M1, F1, rfl, ls1, hpt, hF1, hk1⟩
        try have hz2 := mz.lt
        try replace mz := mz.kp hk1 (fun e => e.elim nz.2.1 nz.2.2.2)
        try replace nz := (show Own11 w F1 z1 bh z2 from ⟨nz.1, hF1 z2 hz2 nz.2.1, nz.2.2⟩)
        replace ls := ls1
        simp only
        refine hK.out _ _ ?_ (fun hH => ?_)
        · exact ls.lb
        clear hK K ls1 hF1 hk1
        refine tkH ?_ 5 hH ?_ ?_; rotate_left
        · intro W' hS; go_simp; with_reducible rfl
        simp only [tkr]
        refine tkH ?_ 6 hH ?_ ?_; rotate_left
        · intro W' hS; go_simp; with_reducible rfl
        simp only [tkr]
        refine tkH ?_ 7 hH ?_ ?_; rotate_left
        · intro W' hS; go_simp; with_reducible rfl
        simp only [tkr]
        refine rdH 8 rfl (fun K hK => ?_)
        go_simp
        have mz := C2.new Wc 72 (.int .i64 0) (.int .i64 0)
        have nz := ls.fresh11
        replace ls := ls.alloc (.cells #[.int .i64 0, .int .i64 0] 72)
        refine hK.out _ _ ?_ (fun hH => ?_)
        · exact ls.lb
        clear hK K
        generalize World.alloc _ _ = Wn at ls mz hH ⊢
        generalize Wc.heap.size = z2 at mz nz ⊢
        rename World => Wc
        refine rdH 9 rfl (fun K hK => ?_)
        obtain ⟨c0, c1, f0, f1⟩ := mz.all
        go_simp
        clear c0 c1 f0 f1
        have kz : Kp (fun q => q = z2) Wc ((Wc.setCell ⟨z2, 0, none⟩ (.int .i64 1)).setCell ⟨z2, 1, none⟩ (.int .i64 (n : Nat))) := ((Kp.refl (fun q => q = z2) Wc).setCell (.inl rfl) _).setCell (.inl rfl) _
        replace ls := ls.kp kz (fun q e => by rw [e]; exact ⟨nz.1, nz.2.1, nz.2.2.2, fun e => nz.2.2.1 e.symm⟩)
        replace mz := (mz.set0 (.int .i64 1)).set1 (.int .i64 (n : Nat))
        refine hK.out _ _ ?_ (fun hH => ?_)
        · exact ls.lb
        clear hK K kz
        refine tkH ?_ 10 hH ?_ ?_; rotate_left
        · intro W' hS; go_simp; with_reducible rfl
        simp only [tkr]
        refine wpAnyH_done (by kernel_rfl) ?_ _
        refine NoPanic.normal ?_
        clear l0 l1
        go_wp2_with fail
        go_meet
        exact ⟨z2, n, M1, F1, rfl, rfl, mz, ls, hpt, nz⟩
      · go_simp
        have mz := C2.new Wc 72 (.int .i64 0) (.int .i64 0)
        have nz := ls.fresh11
        replace ls := ls.alloc (.cells #[.int .i64 0, .int .i64 0] 72)
        refine hK.out _ _ ?_ (fun hH => ?_)
        · exact ls.lb
        clear hK K
        generalize World.alloc _ _ = Wn at ls mz hH ⊢
        generalize Wc.heap.size = z2 at mz nz ⊢
        rename World => Wc
        refine rdH 4 rfl (fun K hK => ?_)
        go_simp
        refine (HPUT.out Wc ls).mono ?_
        rintro e Wc ⟨n, M1, F1, rfl, ls1, hpt, hF1, hk1⟩
        try have hz2 := mz.lt
        try replace mz := mz.kp hk1 (fun e => e.elim nz.2.1 nz.2.2.2)
        try replace nz := (show Own11 w F1 z1 bh z2 from ⟨nz.1, hF1 z2 hz2 nz.2.1, nz.2.2⟩)
        replace ls := ls1
        simp only
        refine hK.out _ _ ?_ (fun hH => ?_)
        · exact ls.lb
        clear hK K ls1 hF1 hk1
        refine tkH ?_ 5 hH ?_ ?_; rotate_left
        · intro W' hS; go_simp; with_reducible rfl
        simp only [tkr]
        refine tkH ?_ 6 hH ?_ ?_; rotate_left
        · intro W' hS; go_simp; with_reducible rfl
        simp only [tkr]
        refine tkH ?_ 7 hH ?_ ?_; rotate_left
        · intro W' hS; go_simp; with_reducible rfl
        simp only [tkr]
        refine rdH 9 rfl (fun K hK => ?_)
        obtain ⟨c0, c1, f0, f1⟩ := mz.all
        go_simp
        clear c0 c1 f0 f1
        have kz : Kp (fun q => q = z2) Wc ((Wc.setCell ⟨z2, 0, none⟩ (.int .i64 1)).setCell ⟨z2, 1, none⟩ (.int .i64 (n : Nat))) := ((Kp.refl (fun q => q = z2) Wc).setCell (.inl rfl) _).setCell (.inl rfl) _
        replace ls := ls.kp kz (fun q e => by rw [e]; exact ⟨nz.1, nz.2.1, nz.2.2.2, fun e => nz.2.2.1 e.symm⟩)
        replace mz := (mz.set0 (.int .i64 1)).set1 (.int .i64 (n : Nat))
        refine hK.out _ _ ?_ (fun hH => ?_)
        · exact ls.lb
        clear hK K kz
        refine tkH ?_ 10 hH ?_ ?_; rotate_left
        · intro W' hS; go_simp; with_reducible rfl
        simp only [tkr]
        refine wpAnyH_done (by kernel_rfl) ?_ _
        refine NoPanic.normal ?_
        clear l0 l1
        go_wp2_with fail
        go_meet
        exact ⟨z2, n, M1, F1, rfl, rfl, mz, ls, hpt, nz⟩
    · go_simp
      have mz := C2.new Wc 72 (.int .i64 0) (.int .i64 0)
      have nz := ls.fresh11
      replace ls := ls.alloc (.cells #[.int .i64 0, .int .i64 0] 72)
      refine hK.out _ _ ?_ (fun hH => ?_)
      · exact ls.lb
      clear hK K
      generalize World.alloc _ _ = Wn at ls mz hH ⊢
      generalize Wc.heap.size = z2 at mz nz ⊢
      rename World => Wc
      refine rdH 2 rfl (fun K hK => ?_)
      go_simp
      refine (lnumber 2 Wc).mono ?_
      rintro e Wc ⟨rfl, hbn⟩
      replace ls := ls.below hbn
      try replace mz := mz.below hbn
      clear hbn
      simp only
      refine hK.out _ _ ?_ (fun hH => ?_)
      · exact ls.lb
      clear hK K
      refine rdH 4 rfl (fun K hK => ?_)
      go_simp
      refine (HPUT.out Wc ls).mono ?_
      rintro e Wc ⟨n, M1, F1, rfl, ls1, hpt, hF1, hk1⟩
      try have hz2 := mz.lt
      try replace mz := mz.kp hk1 (fun e => e.elim nz.2.1 nz.2.2.2)
      try replace nz := (show Own11 w F1 z1 bh z2 from ⟨nz.1, hF1 z2 hz2 nz.2.1, nz.2.2⟩)
      replace ls := ls1
      simp only
      refine hK.out _ _ ?_ (fun hH => ?_)
      · exact ls.lb
      clear hK K ls1 hF1 hk1
      refine tkH ?_ 5 hH ?_ ?_; rotate_left
      · intro W' hS; go_simp; with_reducible rfl
      simp only [tkr]
      refine tkH ?_ 6 hH ?_ ?_; rotate_left
      · intro W' hS; go_simp; with_reducible rfl
      simp only [tkr]
      refine tkH ?_ 7 hH ?_ ?_; rotate_left
      · intro W' hS; go_simp; with_reducible rfl
      simp only [tkr]
      refine rdH 9 rfl (fun K hK => ?_)
      obtain ⟨c0, c1, f0, f1⟩ := mz.all
      go_simp
      clear c0 c1 f0 f1
      have kz : Kp (fun q => q = z2) Wc ((Wc.setCell ⟨z2, 0, none⟩ (.int .i64 1)).setCell ⟨z2, 1, none⟩ (.int .i64 (n : Nat))) := ((Kp.refl (fun q => q = z2) Wc).setCell (.inl rfl) _).setCell (.inl rfl) _
      replace ls := ls.kp kz (fun q e => by rw [e]; exact ⟨nz.1, nz.2.1, nz.2.2.2, fun e => nz.2.2.1 e.symm⟩)
      replace mz := (mz.set0 (.int .i64 1)).set1 (.int .i64 (n : Nat))
      refine hK.out _ _ ?_ (fun hH => ?_)
      · exact ls.lb
      clear hK K kz
      refine tkH ?_ 10 hH ?_ ?_; rotate_left
      · intro W' hS; go_simp; with_reducible rfl
      simp only [tkr]
      refine wpAnyH_done (by kernel_rfl) ?_ _
      refine NoPanic.normal ?_
      clear l0 l1
      go_wp2_with fail
      go_meet
      exact ⟨z2, n, M1, F1, rfl, rfl, mz, ls, hpt, nz⟩
  case rest =>
    obtain ⟨z2, n1, M1, F1, rfl, rfl, bz, ls, hm1, no⟩ := hcut
    have hl1 := hm1.live
    rw [live_zero (fun _ => rfl)] at hl1
    have HPUT2 := Lib.hid (fun (W : World) (h : LS w b bh 1 50 z1 M1 F1 W) => put11 1 n1 0 (2, 1, ⟨#[]⟩) noV [((2, 2, ⟨#[]⟩), noV)] (by decide) ok1 hm1.bk (fun j => by have := out1_le (fun _ => 0) 0 0 j; omega) hm1.tt (by decide) (by show _ + (1 + 1) ≤ 50; omega) W h)
    rw [two11] at HPUT2
    clear HPUT hm1 hl1
    go_upto_region 3 with fail
    go_cut [4, 5] from 16 to 23 (fun s4 s5 wc => ∃ (z4 n2 : Nat) (M2 : Cells) (F2 : Nat → Prop) (P2 : Nat → Nat), s4 = .pointer (some ⟨z4, 0, none⟩) ∧ s5 = .int .i64 0 ∧ C2 wc z4 72 (.int .i64 2) (.int .i64 (n2 : Nat)) ∧ LS w b bh 1 50 z1 M2 F2 wc ∧ TT M2 n2 [((2, 1, ⟨#[]⟩), noV), ((2, 2, ⟨#[]⟩), noV)] ∧ C2 wc z2 72 (.int .i64 1) (.int .i64 (n1 : Nat)))
    case first =>
      have l0 : ∀ W', C2 W' z1 26 (ap b) (.pointer (some ⟨bh, 0, none⟩)) ∧ C2 W' z2 72 (.int .i64 1) (.int .i64 (n1 : Nat)) → W'.cell? ⟨z1, 0, none⟩ = some (ap b) := fun W' h => h.1.c0
      have l1 : ∀ W', C2 W' z1 26 (ap b) (.pointer (some ⟨bh, 0, none⟩)) ∧ C2 W' z2 72 (.int .i64 1) (.int .i64 (n1 : Nat)) → W'.cell? ⟨z1, 1, none⟩ = some (.pointer (some ⟨bh, 0, none⟩)) := fun W' h => h.1.c1
      have b0 : ∀ W', C2 W' z1 26 (ap b) (.pointer (some ⟨bh, 0, none⟩)) ∧ C2 W' z2 72 (.int .i64 1) (.int .i64 (n1 : Nat)) → W'.cell? ⟨z2, 0, none⟩ = some (.int .i64 1) := fun W' h => h.2.c0
      have b1 : ∀ W', C2 W' z1 26 (ap b) (.pointer (some ⟨bh, 0, none⟩)) ∧ C2 W' z2 72 (.int .i64 1) (.int .i64 (n1 : Nat)) → W'.cell? ⟨z2, 1, none⟩ = some (.int .i64 (n1 : Nat)) := fun W' h => h.2.c1
      refine wp_region_noPanic ?_
      refine wp_region_held_drew (S := fun W' => C2 W' z1 26 (ap b) (.pointer (some ⟨bh, 0, none⟩)) ∧ C2 W' z2 72 (.int .i64 1) (.int .i64 (n1 : Nat))) (by kernel_rfl) ⟨(ls.below (Below.refl _ _).drew).lb, bz.below (Below.refl _ _).drew⟩ (fun hH => ?_)
      replace ls := ls.below (Below.refl _ wc).drew
      replace bz := bz.below (Below.refl _ wc).drew
      generalize wc.drew = Wc at ls bz hH ⊢
      refine tkH ?_ 0 hH ?_ ?_; rotate_left
      · intro W' hS; go_simp; with_reducible rfl
      simp only [tkr]
      refine tkH ?_ 1 hH ?_ ?_; rotate_left
      · intro W' hS; go_simp; with_reducible rfl
      simp only [tkr]
      refine tkH ?_ 3 hH ?_ ?_; rotate_left
      · intro W' hS; go_simp; with_reducible rfl
      simp only [tkr]
      refine wpAnyH_ready (rs := [2, 8]) (by kernel_rfl) (by simp) ?_
      refine AllReadyH.cons rfl (fun K hK => ?_) (AllReadyH.cons rfl (fun K hK => ?_) (AllReadyH.nil))
      · go_simp
        refine (lnumber 1 Wc).mono ?_
        rintro e Wc ⟨rfl, hbn⟩
        replace ls := ls.below hbn
        replace bz := bz.below hbn
        try replace mz := mz.below hbn
        clear hbn
        simp only
        refine hK.out _ _ ?_ (fun hH => ?_)
        · exact ⟨ls.lb, bz⟩
        clear hK K
        refine wpAnyH_ready (rs := [4, 8]) (by kernel_rfl) (by simp) ?_
        refine AllReadyH.cons rfl (fun K hK => ?_) (AllReadyH.cons rfl (fun K hK => ?_) (AllReadyH.nil))
        · go_simp
          refine (HPUT2.out Wc ls).mono ?_
          rintro e Wc ⟨n2, M2, F2, rfl, ls1, hpt, hF2, hk1⟩
          try have hz4 := mz.lt
          have hzl := bz.lt
          replace bz := bz.kp hk1 (fun e => e.elim no.2.1 no.2.2.2)
          replace no := (show Own11 w F2 z1 bh z2 from ⟨no.1, hF2 z2 (hzl) no.2.1, no.2.2⟩)
          try replace mz := mz.kp hk1 (fun e => e.elim nz.2.1 nz.2.2.2)
          try replace nz := (show Own11 w F2 z1 bh z4 from ⟨nz.1, hF2 z4 hz4 nz.2.1, nz.2.2⟩)
          replace ls := ls1
          simp only
          refine hK.out _ _ ?_ (fun hH => ?_)
          · exact ⟨ls.lb, bz⟩
          clear hK K ls1 hF2 hk1
          refine tkH ?_ 5 hH ?_ ?_; rotate_left
          · intro W' hS; go_simp; with_reducible rfl
          simp only [tkr]
          refine tkH ?_ 6 hH ?_ ?_; rotate_left
          · intro W' hS; go_simp; with_reducible rfl
          simp only [tkr]
          refine tkH ?_ 7 hH ?_ ?_; rotate_left
          · intro W' hS; go_simp; with_reducible rfl
          simp only [tkr]
          refine rdH 8 rfl (fun K hK => ?_)
          go_simp
          have mz := C2.new Wc 72 (.int .i64 0) (.int .i64 0)
          have nz := ls.fresh11
          have n24 : ¬ z2 = Wc.heap.size := fun e => absurd bz.lt (by rw [e]; exact Nat.lt_irrefl _)
          replace bz := bz.alloc (.cells #[.int .i64 0, .int .i64 0] 72)
          replace ls := ls.alloc (.cells #[.int .i64 0, .int .i64 0] 72)
          refine hK.out _ _ ?_ (fun hH => ?_)
          · exact ⟨ls.lb, bz⟩
          clear hK K
          generalize World.alloc _ _ = Wn at ls mz bz hH ⊢
          generalize Wc.heap.size = z4 at mz nz n24 ⊢
          rename World => Wc
          refine rdH 9 rfl (fun K hK => ?_)
          obtain ⟨c0, c1, f0, f1⟩ := mz.all
          go_simp
          clear c0 c1 f0 f1
          have kz : Kp (fun q => q = z4) Wc ((Wc.setCell ⟨z4, 0, none⟩ (.int .i64 2)).setCell ⟨z4, 1, none⟩ (.int .i64 (n2 : Nat))) := ((Kp.refl (fun q => q = z4) Wc).setCell (.inl rfl) _).setCell (.inl rfl) _
          replace ls := ls.kp kz (fun q e => by rw [e]; exact ⟨nz.1, nz.2.1, nz.2.2.2, fun e => nz.2.2.1 e.symm⟩)
          replace bz := bz.kp kz n24
          replace mz := (mz.set0 (.int .i64 2)).set1 (.int .i64 (n2 : Nat))
          refine hK.out _ _ ?_ (fun hH => ?_)
          · exact ⟨ls.lb, bz⟩
          clear hK K kz
          refine tkH ?_ 10 hH ?_ ?_; rotate_left
          · intro W' hS; go_simp; with_reducible rfl
          simp only [tkr]
          refine wpAnyH_done (by kernel_rfl) ?_ _
          refine NoPanic.normal ?_
          clear l0 l1 b0 b1
          go_wp2_with fail
          go_meet
          exact ⟨z4, n2, M2, F2, fun _ => 0, rfl, rfl, mz, ls, hpt.tt, bz⟩
        · go_simp
          have mz := C2.new Wc 72 (.int .i64 0) (.int .i64 0)
          have nz := ls.fresh11
          have n24 : ¬ z2 = Wc.heap.size := fun e => absurd bz.lt (by rw [e]; exact Nat.lt_irrefl _)
          replace bz := bz.alloc (.cells #[.int .i64 0, .int .i64 0] 72)
          replace ls := ls.alloc (.cells #[.int .i64 0, .int .i64 0] 72)
          refine hK.out _ _ ?_ (fun hH => ?_)
          · exact ⟨ls.lb, bz⟩
          clear hK K
          generalize World.alloc _ _ = Wn at ls mz bz hH ⊢
          generalize Wc.heap.size = z4 at mz nz n24 ⊢
          rename World => Wc
          refine rdH 4 rfl (fun K hK => ?_)
          go_simp
          refine (HPUT2.out Wc ls).mono ?_
          rintro e Wc ⟨n2, M2, F2, rfl, ls1, hpt, hF2, hk1⟩
          try have hz4 := mz.lt
          have hzl := bz.lt
          replace bz := bz.kp hk1 (fun e => e.elim no.2.1 no.2.2.2)
          replace no := (show Own11 w F2 z1 bh z2 from ⟨no.1, hF2 z2 (hzl) no.2.1, no.2.2⟩)
          try replace mz := mz.kp hk1 (fun e => e.elim nz.2.1 nz.2.2.2)
          try replace nz := (show Own11 w F2 z1 bh z4 from ⟨nz.1, hF2 z4 hz4 nz.2.1, nz.2.2⟩)
          replace ls := ls1
          simp only
          refine hK.out _ _ ?_ (fun hH => ?_)
          · exact ⟨ls.lb, bz⟩
          clear hK K ls1 hF2 hk1
          refine tkH ?_ 5 hH ?_ ?_; rotate_left
          · intro W' hS; go_simp; with_reducible rfl
          simp only [tkr]
          refine tkH ?_ 6 hH ?_ ?_; rotate_left
          · intro W' hS; go_simp; with_reducible rfl
          simp only [tkr]
          refine tkH ?_ 7 hH ?_ ?_; rotate_left
          · intro W' hS; go_simp; with_reducible rfl
          simp only [tkr]
          refine rdH 9 rfl (fun K hK => ?_)
          obtain ⟨c0, c1, f0, f1⟩ := mz.all
          go_simp
          clear c0 c1 f0 f1
          have kz : Kp (fun q => q = z4) Wc ((Wc.setCell ⟨z4, 0, none⟩ (.int .i64 2)).setCell ⟨z4, 1, none⟩ (.int .i64 (n2 : Nat))) := ((Kp.refl (fun q => q = z4) Wc).setCell (.inl rfl) _).setCell (.inl rfl) _
          replace ls := ls.kp kz (fun q e => by rw [e]; exact ⟨nz.1, nz.2.1, nz.2.2.2, fun e => nz.2.2.1 e.symm⟩)
          replace bz := bz.kp kz n24
          replace mz := (mz.set0 (.int .i64 2)).set1 (.int .i64 (n2 : Nat))
          refine hK.out _ _ ?_ (fun hH => ?_)
          · exact ⟨ls.lb, bz⟩
          clear hK K kz
          refine tkH ?_ 10 hH ?_ ?_; rotate_left
          · intro W' hS; go_simp; with_reducible rfl
          simp only [tkr]
          refine wpAnyH_done (by kernel_rfl) ?_ _
          refine NoPanic.normal ?_
          clear l0 l1 b0 b1
          go_wp2_with fail
          go_meet
          exact ⟨z4, n2, M2, F2, fun _ => 0, rfl, rfl, mz, ls, hpt.tt, bz⟩
      · go_simp
        have mz := C2.new Wc 72 (.int .i64 0) (.int .i64 0)
        have nz := ls.fresh11
        have n24 : ¬ z2 = Wc.heap.size := fun e => absurd bz.lt (by rw [e]; exact Nat.lt_irrefl _)
        replace bz := bz.alloc (.cells #[.int .i64 0, .int .i64 0] 72)
        replace ls := ls.alloc (.cells #[.int .i64 0, .int .i64 0] 72)
        refine hK.out _ _ ?_ (fun hH => ?_)
        · exact ⟨ls.lb, bz⟩
        clear hK K
        generalize World.alloc _ _ = Wn at ls mz bz hH ⊢
        generalize Wc.heap.size = z4 at mz nz n24 ⊢
        rename World => Wc
        refine rdH 2 rfl (fun K hK => ?_)
        go_simp
        refine (lnumber 1 Wc).mono ?_
        rintro e Wc ⟨rfl, hbn⟩
        replace ls := ls.below hbn
        replace bz := bz.below hbn
        try replace mz := mz.below hbn
        clear hbn
        simp only
        refine hK.out _ _ ?_ (fun hH => ?_)
        · exact ⟨ls.lb, bz⟩
        clear hK K
        refine rdH 4 rfl (fun K hK => ?_)
        go_simp
        refine (HPUT2.out Wc ls).mono ?_
        rintro e Wc ⟨n2, M2, F2, rfl, ls1, hpt, hF2, hk1⟩
        try have hz4 := mz.lt
        have hzl := bz.lt
        replace bz := bz.kp hk1 (fun e => e.elim no.2.1 no.2.2.2)
        replace no := (show Own11 w F2 z1 bh z2 from ⟨no.1, hF2 z2 (hzl) no.2.1, no.2.2⟩)
        try replace mz := mz.kp hk1 (fun e => e.elim nz.2.1 nz.2.2.2)
        try replace nz := (show Own11 w F2 z1 bh z4 from ⟨nz.1, hF2 z4 hz4 nz.2.1, nz.2.2⟩)
        replace ls := ls1
        simp only
        refine hK.out _ _ ?_ (fun hH => ?_)
        · exact ⟨ls.lb, bz⟩
        clear hK K ls1 hF2 hk1
        refine tkH ?_ 5 hH ?_ ?_; rotate_left
        · intro W' hS; go_simp; with_reducible rfl
        simp only [tkr]
        refine tkH ?_ 6 hH ?_ ?_; rotate_left
        · intro W' hS; go_simp; with_reducible rfl
        simp only [tkr]
        refine tkH ?_ 7 hH ?_ ?_; rotate_left
        · intro W' hS; go_simp; with_reducible rfl
        simp only [tkr]
        refine rdH 9 rfl (fun K hK => ?_)
        obtain ⟨c0, c1, f0, f1⟩ := mz.all
        go_simp
        clear c0 c1 f0 f1
        have kz : Kp (fun q => q = z4) Wc ((Wc.setCell ⟨z4, 0, none⟩ (.int .i64 2)).setCell ⟨z4, 1, none⟩ (.int .i64 (n2 : Nat))) := ((Kp.refl (fun q => q = z4) Wc).setCell (.inl rfl) _).setCell (.inl rfl) _
        replace ls := ls.kp kz (fun q e => by rw [e]; exact ⟨nz.1, nz.2.1, nz.2.2.2, fun e => nz.2.2.1 e.symm⟩)
        replace bz := bz.kp kz n24
        replace mz := (mz.set0 (.int .i64 2)).set1 (.int .i64 (n2 : Nat))
        refine hK.out _ _ ?_ (fun hH => ?_)
        · exact ⟨ls.lb, bz⟩
        clear hK K kz
        refine tkH ?_ 10 hH ?_ ?_; rotate_left
        · intro W' hS; go_simp; with_reducible rfl
        simp only [tkr]
        refine wpAnyH_done (by kernel_rfl) ?_ _
        refine NoPanic.normal ?_
        clear l0 l1 b0 b1
        go_wp2_with fail
        go_meet
        exact ⟨z4, n2, M2, F2, fun _ => 0, rfl, rfl, mz, ls, hpt.tt, bz⟩
    case rest =>
      obtain ⟨z4, n2, M2, F2, P2, rfl, rfl, bz4, ls, htt, bz⟩ := hcut
      have LSS := Lib.hid (And.intro ls (And.intro htt (And.intro bz4 bz)))
      have hnil : ∀ (zl zm : Nat) (W : World), Sem.run Tryz.prog (binOp .eql 40 (seqt zl zm) .nilFunc) W = .ok (.bool false) W := fun _ _ _ => by kernel_rfl
      obtain ⟨a0, a1, _⟩ := ls.lb.all
      obtain ⟨c0, c1, _⟩ := bz4.all
      clear ls htt bz4 bz
      go_upto_region 4 with fail
      have HP1 := Lib.hid (tPairs b bh 2 n2 wc)
      go_wp2_with fail
      refine HP1.out.mono ?_
      rintro e w3 ⟨zl, zm, rfl, _, _, _, _, hb3⟩
      obtain ⟨a0, a1, _⟩ := (LSS.out.1.lb.below hb3).all
      obtain ⟨c0, c1, _⟩ := (LSS.out.2.2.1.below hb3).all
      have e1 := hnil zl zm
      have HB3 := Lib.hid hb3
      clear hb3 HP1
      go_upto_region 6 with fail
      clear e1
      have HP2 := Lib.hid (tPairs b bh 2 n2 w3)
      go_wp2_with fail
      refine HP2.out.mono ?_
      rintro e w4 ⟨yl, ym, rfl, ql, qm, _, _, hb4⟩
      have hb34 := HB3.out.trans (hb4.mono HB3.out.size)
      have HB4 := Lib.hid hb34
      have HC := Lib.hid (tcollect (b := b) (bh := bh) (most := 50) (root := n2) (N := 2) (M := M2) (F := F2) (l := [((2, 1, ⟨#[]⟩), noV), ((2, 2, ⟨#[]⟩), noV)]) yl ym w4 (LSS.out.1.ar.below hb34) LSS.out.2.1 (by decide) ql qm)
      clear hb34 hb4 ql qm HP2 a0 a1 c0 c1 HB3
      go_wp2_with fail
      refine HC.out.mono ?_
      rintro e w5 ⟨v, rfl, hv, hb5⟩
      obtain ⟨g, c, rfl, _⟩ : ∃ g c, v = .slice (some ⟨g, 0, none⟩) 2 c ∧ 2 ≤ c := by
        obtain ⟨g, c, e, hc, _⟩ := own_at hv (j := 0) (u := .int .u8 2) rfl
        exact ⟨g, c, e, hc⟩
      have cel : ∀ {j : Nat} {u : Value}, (([((2, 1, ⟨#[]⟩), noV), ((2, 2, ⟨#[]⟩), noV)] : List Pr).flatMap pcells)[j]? = some u → w5.cell? ⟨g, j, none⟩ = some u := fun {j u} hu => by
        obtain ⟨g', c', e', _, k', _⟩ := own_at hv hu
        simp only [Value.slice.injEq, true_and, Option.some.injEq, Addr.mk.injEq, and_true] at e'
        rw [← e'.1] at k'
        exact k'
      have g0 : w5.cell? ⟨g, 0, none⟩ = some (.int .u8 2) := cel rfl
      have g1 : w5.cell? ⟨g, 1, none⟩ = some (.int .i64 1) := cel rfl
      have g2 : w5.cell? ⟨g, 2, none⟩ = some (.string ⟨#[]⟩) := cel rfl
      have hb45 := HB4.out.trans (hb5.mono HB4.out.size)
      have HQ := Lib.hid (And.intro (show ∀ W, Below w5.heap.size w5 W → W.cell? ⟨g, 0, none⟩ = some (.int .u8 2) ∧ W.cell? ⟨g, 1, none⟩ = some (.int .i64 1) ∧ W.cell? ⟨g, 2, none⟩ = some (.string ⟨#[]⟩) ∧ W.cell? ⟨z2, 0, none⟩ = some (.int .i64 1) from fun W hW => ⟨(Kp.of_below hW (fun _ => False)).cell g0 id, (Kp.of_below hW (fun _ => False)).cell g1 id, (Kp.of_below hW (fun _ => False)).cell g2 id, ((LSS.out.2.2.2.below hb45).below hW).c0⟩) (show Below w.heap.size w w5 from LSS.out.1.bel.trans (hb45.mono LSS.out.1.bel.size)))
      clear cel g0 g1 g2 hv hb5 hb45 HC
      go_upto_region 7 with fail
      have g0 : ∀ W, Below w5.heap.size w5 W → W.cell? ⟨g, 0, none⟩ = some (.int .u8 2) := fun W hW => (HQ.out.1 W hW).1
      have g1 : ∀ W, Below w5.heap.size w5 W → W.cell? ⟨g, 1, none⟩ = some (.int .i64 1) := fun W hW => (HQ.out.1 W hW).2.1
      have g2 : ∀ W, Below w5.heap.size w5 W → W.cell? ⟨g, 2, none⟩ = some (.string ⟨#[]⟩) := fun W hW => (HQ.out.1 W hW).2.2.1
      have y0 : ∀ W, Below w5.heap.size w5 W → W.cell? ⟨z2, 0, none⟩ = some (.int .i64 1) := fun W hW => (HQ.out.1 W hW).2.2.2
      refine wp_region_noPanic ?_
      refine wp_region_held_drew (S := fun W' => Below w5.heap.size w5 W') (by kernel_rfl) (Below.refl _ w5).drew (fun hH => ?_)
      generalize w5.drew = Wc at hH ⊢
      refine tkH ?_ 0 hH ?_ ?_; rotate_left
      · intro W' hS; go_simp; with_reducible rfl
      simp only [tkr]
      refine tkH ?_ 1 hH ?_ ?_; rotate_left
      · intro W' hS; go_simp; with_reducible rfl
      simp only [tkr]
      refine tkH ?_ 2 hH ?_ ?_; rotate_left
      · intro W' hS; go_simp; with_reducible rfl
      simp only [tkr]
      refine tkH ?_ 3 hH ?_ ?_; rotate_left
      · intro W' hS; go_simp; with_reducible rfl
      simp only [tkr]
      refine tkH ?_ 4 hH ?_ ?_; rotate_left
      · intro W' hS; go_simp; with_reducible rfl
      simp only [tkr]
      refine tkH ?_ 5 hH ?_ ?_; rotate_left
      · intro W' hS; go_simp; with_reducible rfl
      simp only [tkr]
      refine tkH ?_ 6 hH ?_ ?_; rotate_left
      · intro W' hS; go_simp; with_reducible rfl
      simp only [tkr]
      refine tkH ?_ 7 hH ?_ ?_; rotate_left
      · intro W' hS; go_simp; with_reducible rfl
      simp only [tkr]
      refine tkH ?_ 8 hH ?_ ?_; rotate_left
      · intro W' hS; go_simp; with_reducible rfl
      simp only [tkr]
      refine tkH ?_ 9 hH ?_ ?_; rotate_left
      · intro W' hS; go_simp; with_reducible rfl
      simp only [tkr]
      refine tkH ?_ 10 hH ?_ ?_; rotate_left
      · intro W' hS; go_simp; with_reducible rfl
      simp only [tkr]
      refine tkH ?_ 11 hH ?_ ?_; rotate_left
      · intro W' hS; go_simp; with_reducible rfl
      simp only [tkr]
      refine tkH ?_ 12 hH ?_ ?_; rotate_left
      · intro W' hS; go_simp; with_reducible rfl
      simp only [tkr]
      refine tkH ?_ 13 hH ?_ ?_; rotate_left
      · intro W' hS; go_simp; with_reducible rfl
      simp only [tkr]
      refine tkH ?_ 14 hH ?_ ?_; rotate_left
      · intro W' hS; go_simp; with_reducible rfl
      simp only [tkr]
      refine tkH ?_ 15 hH ?_ ?_; rotate_left
      · intro W' hS; go_simp; with_reducible rfl
      simp only [tkr]
      refine rdH 16 rfl (fun K hK => ?_)
      go_simp
      refine (lnumber 1 Wc).mono ?_
      rintro e Wn ⟨rfl, hbn⟩
      have hH2 := hH.trans (hbn.mono hH.size)
      simp only
      refine hK.out _ _ hH2 (fun hH => ?_)
      clear hK K hH2 hbn
      rename World => Wc
      refine tkH ?_ 17 hH ?_ ?_; rotate_left
      · intro W' hS; go_simp; with_reducible rfl
      simp only [tkr]
      refine tkH ?_ 18 hH ?_ ?_; rotate_left
      · intro W' hS; go_simp; with_reducible rfl
      simp only [tkr]
      refine tkH ?_ 19 hH ?_ ?_; rotate_left
      · intro W' hS; go_simp; with_reducible rfl
      simp only [tkr]
      refine tkH ?_ 20 hH ?_ ?_; rotate_left
      · intro W' hS; go_simp; with_reducible rfl
      simp only [tkr]
      refine tkH ?_ 21 hH ?_ ?_; rotate_left
      · intro W' hS; go_simp; with_reducible rfl
      simp only [tkr]
      refine tkH ?_ 22 hH ?_ ?_; rotate_left
      · intro W' hS; go_simp; with_reducible rfl
      simp only [tkr]
      refine tkH ?_ 23 hH ?_ ?_; rotate_left
      · intro W' hS; go_simp; with_reducible rfl
      simp only [tkr]
      refine tkH ?_ 24 hH ?_ ?_; rotate_left
      · intro W' hS; go_simp; with_reducible rfl
      simp only [tkr]
      refine wpAnyH_done (by kernel_rfl) ?_ _
      refine NoPanic.normal ?_
      clear g0 g1 g2 y0
      have HF := Lib.hid (HQ.out.2.trans (hH.mono HQ.out.2.size))
      clear hH
      go_wp2_with fail
      exact bodyPost_ret (v := .bool true) (by simp [results, Tryz.results32, go_sem]) rfl ⟨rfl, HF.out⟩
end
end Go.Proofs.YtghbbpbhbinioaaGreat

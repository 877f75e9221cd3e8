/- Several texts in one. -/
import Derived.Test.YthcpjehkjhpjfaaGreatMh23
import Derived.Test.YthcpjehkjhpjfaaGreatMh11
set_option linter.unusedSimpArgs false
namespace Go.Proofs.YthcpjehkjhpjfaaGreat
set_option maxRecDepth 100000
open Go.RowKit
theorem LS.newz {w W : World} {b bh seed most z1 : Nat} {M : Cells} {F : Nat → Prop} (h : LS w b bh seed most z1 M F W) : w.heap.size ≤ W.heap.size ∧ ¬ F W.heap.size ∧ ¬ z1 = W.heap.size ∧ ¬ W.heap.size = bh :=
  ⟨h.bel.size, fun hf => absurd (h.ar.lt hf) (Nat.lt_irrefl _), fun e => absurd h.lb.lt (by rw [e]; exact Nat.lt_irrefl _), fun e => absurd h.hh.lt (by rw [← e]; exact Nat.lt_irrefl _)⟩
structure S7 (b bh z1 z2 z4 n : Nat) (M : Cells) (F : Nat → Prop) (W : World) : Prop where
  lb : C2 W z1 30 (ap b) (.pointer (some ⟨bh, 0, none⟩))
  mb : C2 W z2 33 (.int .i64 1) (.int .i64 (n : Nat))
  vb : C3 W z4 43 (.int .u8 2) (.int .i64 2) (.string ⟨#[]⟩)
  ar : Ar W b 50 M F
section
set_option maxHeartbeats 6000000 in
theorem llives (w : World) : Calls Tryz.prog 14 #[] w fun e w' => e = .returned (.bool true) ∧ Below w.heap.size w w' := by
  obtain ⟨hs, hhs⟩ : ∃ hs : Ky → Nat, ∀ q, OkK q → hs q = hashN 1 q.1 q.2.1 q.2.2 := ⟨fun q => hashN 1 q.1 q.2.1 q.2.2, fun _ _ => rfl⟩
  have ok1 : OkK (2, 1, ⟨#[]⟩) := by decide
  have HL := Lib.hid (lland 1 50 w (by decide) (by decide))
  have HHS := Lib.hid hhs
  clear hhs
  go_enter Tryz.func14, Tryz.ntmps14
  go_wp2_with fail
  refine HL.out.mono ?_
  rintro e w1 ⟨b, bh, rfl, ha, hh, hne, hb0, hbh, hbl⟩
  have LB := Lib.hid (And.intro ha (And.intro hh (And.intro hne (And.intro hb0 (And.intro hbh hbl)))))
  have hbb := ha.blt
  have hhb := hh.lt
  clear ha hh hne hb0 hbh hbl HL
  go_upto_region 2 with fail
  have ls : LS w b bh 1 50 w1.heap.size (fun _ => none) (fun k => k = b) (w1.alloc (.cells #[ap b, .pointer (some ⟨bh, 0, none⟩)] 30)) := by
    obtain ⟨ha, hh, hne, hb0, hbh, hbl⟩ := LB.out
    exact ⟨ha.alloc _, hh.alloc _, fun e => hne e.symm, C2.new _ _ _ _, ⟨fun e => by omega, by omega⟩, hbl.alloc hbl.size _, fun q e => by omega, ⟨hbl.size, hbh⟩⟩
  clear hbb hhb
  generalize w1.alloc (.cells #[ap b, .pointer (some ⟨bh, 0, none⟩)] 30) = w2 at ls ⊢
  generalize w1.heap.size = z1 at ls ⊢
  have HPUT := Lib.hid (fun (W : World) (h : LS w b bh 1 50 z1 (fun _ => none) (fun k => k = b) W) => (show Calls Tryz.prog 21 #[land b bh, .agg #[.int .i64 0, .int .i64 0], xagg (2, 1, ⟨#[]⟩), xagg (2, 2, ⟨#[]⟩), .int .u32 0] W fun e W' => ∃ (n : Nat) (M' : Cells) (F' : Nat → Prop), e = .returned (.tuple #[.agg #[.int .i64 1, .int .i64 (n : Nat)], .int .i64 0]) ∧ LS w b bh 1 50 z1 M' F' W' ∧ (1 ≤ n ∧ MapR 50 (fun _ => none) (fun _ => 0) hs 0 0 (putL hs ((2, 1, ⟨#[]⟩), (2, 2, ⟨#[]⟩)) []) n M' ∧ ∀ q, F' q → q < W.heap.size → ¬ q = b → False) ∧ Kp (fun q => q = b ∨ q = bh) W W' from by
    refine (vPut (l := []) b bh 1 0 (2, 1, ⟨#[]⟩) (2, 2, ⟨#[]⟩) 0 (fun _ => 0) W h.ar (by decide) (bk0 50) (fun _ => Nat.zero_le _) (.inl ⟨rfl, rfl⟩) h.hh h.nb HHS.out (fun q hq => by cases hq) ok1 (by decide)).mono ?_
    have hl0 : live (50 + 1) (fun _ => none) = 0 := live_zero fun _ => rfl
    rintro e W' (⟨_, _, hlong, _⟩ | ⟨_, hfull, _⟩ | ⟨n, M', rfl, _, n1, hm, hs2⟩)
    · exact absurd hlong (by unfold Long; decide)
    · rw [hl0] at hfull; omega
    · refine ⟨n, M', _, rfl, h.put hs2, ⟨n1, hm, fun q hq hlt hb => ?_⟩, hs2.kp⟩
      rcases hq with hq | hq
      · exact hb hq
      · omega))
  go_cut [2, 3] from 10 to 16 (fun s2 s3 wc => ∃ (z2 n : Nat) (M' : Cells) (F' : Nat → Prop), s2 = .pointer (some ⟨z2, 0, none⟩) ∧ s3 = .int .i64 0 ∧ C2 wc z2 33 (.int .i64 1) (.int .i64 (n : Nat)) ∧ LS w b bh 1 50 z1 M' F' wc ∧ (1 ≤ n ∧ MapR 50 (fun _ => none) (fun _ => 0) hs 0 0 (putL hs ((2, 1, ⟨#[]⟩), (2, 2, ⟨#[]⟩)) []) n M') ∧ (w.heap.size ≤ z2 ∧ ¬ F' z2 ∧ ¬ z1 = z2 ∧ ¬ z2 = bh))
  case first =>
    have l0 : ∀ W', C2 W' z1 30 (ap b) (.pointer (some ⟨bh, 0, none⟩)) → W'.cell? ⟨z1, 0, none⟩ = some (ap b) := fun W' h => h.c0
    have l1 : ∀ W', C2 W' z1 30 (ap b) (.pointer (some ⟨bh, 0, none⟩)) → W'.cell? ⟨z1, 1, none⟩ = some (.pointer (some ⟨bh, 0, none⟩)) := fun W' h => h.c1
    refine wp_region_noPanic ?_
    refine wp_region_held_drew (S := (fun W' => C2 W' z1 30 (ap b) (.pointer (some ⟨bh, 0, none⟩)))) (by kernel_rfl) (ls.below (Below.refl _ w2).drew).lb (fun hH => ?_)
    have ls3 := ls.below (Below.refl _ w2).drew
    clear ls
    generalize w2.drew = W3 at ls3 hH ⊢
    refine tkH ?_ 0 hH ?_ ?_; rotate_left
    · intro W' hS; go_simp; with_reducible rfl
    simp only [tkr]
    refine tkH ?_ 1 hH ?_ ?_; rotate_left
    · intro W' hS; go_simp; with_reducible rfl
    simp only [tkr]
    refine wpAnyH_ready (rs := [2, 8]) (by kernel_rfl) (by simp) ?_
    refine AllReadyH.cons rfl (fun K hK => ?_) (AllReadyH.cons rfl (fun K hK => ?_) AllReadyH.nil)
    · go_simp
      refine (lnumber 1 W3).mono ?_
      rintro e W4 ⟨rfl, hb4⟩
      have ls4 := ls3.below hb4
      clear hb4
      simp only
      refine hK.out _ _ ?_ (fun hH => ?_)
      · exact ls4.lb
      clear hK K
      refine wpAnyH_ready (rs := [3, 8]) (by kernel_rfl) (by simp) ?_
      refine AllReadyH.cons rfl (fun K hK => ?_) (AllReadyH.cons rfl (fun K hK => ?_) AllReadyH.nil)
      · go_simp
        refine (lnumber 2 W4).mono ?_
        rintro e W5 ⟨rfl, hb5⟩
        have ls5 := ls4.below hb5
        clear hb5
        simp only
        refine hK.out _ _ ?_ (fun hH => ?_)
        · exact ls5.lb
        clear hK K
        refine wpAnyH_ready (rs := [4, 8]) (by kernel_rfl) (by simp) ?_
        refine AllReadyH.cons rfl (fun K hK => ?_) (AllReadyH.cons rfl (fun K hK => ?_) AllReadyH.nil)
        · go_simp
          refine (HPUT.out _ ls5).mono ?_
          rintro e W6 ⟨n, M', F', rfl, ls6, hpt, hkp⟩
          simp only
          refine hK.out _ _ ?_ (fun hH => ?_)
          · exact ls6.lb
          clear hK K
          refine tkH ?_ 5 hH ?_ ?_; rotate_left
          · intro W' hS; go_simp; with_reducible rfl
          simp only [tkr]
          refine tkH ?_ 6 hH ?_ ?_; rotate_left
          · intro W' hS; go_simp; with_reducible rfl
          simp only [tkr]
          refine tkH ?_ 7 hH ?_ ?_; rotate_left
          · intro W' hS; go_simp; with_reducible rfl
          simp only [tkr]
          refine rdH 8 rfl (fun K hK => ?_)
          go_simp
          have ls7 := ls6.alloc (.cells #[.int .i64 0, .int .i64 0] 33)
          have hq7 := C2.new W6 33 (.int .i64 0) (.int .i64 0)
          have mz7 := And.intro hq7 ls6.newz
          refine hK.out _ _ ?_ (fun hH => ?_)
          · exact ls7.lb
          clear hK K hq7
          generalize W6.alloc (.cells #[.int .i64 0, .int .i64 0] 33) = W7 at ls7 mz7 hH ⊢
          generalize W6.heap.size = z2 at mz7 ⊢
          refine rdH 9 rfl (fun K hK => ?_)
          obtain ⟨c0, c1, f0, f1⟩ := mz7.1.all
          have ne1 : ¬ z1 = z2 := mz7.2.2.2.1
          go_simp
          clear c0 c1 f0 f1
          have FIN := Lib.hid (fun W9 (h9 : Kp (fun q => q = z2) W7 W9) => (show LS w b bh 1 50 z1 M' F' W9 from ls7.kp h9 (fun q e => by
            rw [e]
            exact ⟨mz7.2.1, mz7.2.2.1, mz7.2.2.2.2, fun e => ne1 e.symm⟩)))
          have hP := (mz7.1.set0 (.int .i64 1)).set1 (.int .i64 (n : Nat))
          refine hK.out _ _ ?_ (fun hH => ?_)
          · refine (FIN.out _ ?_).lb
            repeat first
              | with_reducible exact Kp.refl _ _
              | with_reducible refine Kp.setCell ?_ (by simp) _
          clear hK K
          refine tkH ?_ 10 hH ?_ ?_; rotate_left
          · intro W' hS; go_simp; with_reducible rfl
          simp only [tkr]
          refine wpAnyH_done (by kernel_rfl) ?_ _
          refine NoPanic.normal ?_
          clear l0 l1
          go_wp2_with fail
          go_meet
          refine ⟨z2, n, M', F', rfl, rfl, hP, FIN.out _ ?_, ⟨hpt.1, hpt.2.1⟩, mz7.2⟩
          repeat first
            | with_reducible exact Kp.refl _ _
            | with_reducible refine Kp.setCell ?_ (by simp) _
        · go_simp
          have ls6 := ls5.alloc (.cells #[.int .i64 0, .int .i64 0] 33)
          have hq6 := C2.new W5 33 (.int .i64 0) (.int .i64 0)
          have mz6 := And.intro hq6 ls5.newz
          refine hK.out _ _ ?_ (fun hH => ?_)
          · exact ls6.lb
          clear hK K hq6
          generalize W5.alloc (.cells #[.int .i64 0, .int .i64 0] 33) = W6 at ls6 mz6 hH ⊢
          generalize W5.heap.size = z2 at mz6 ⊢
          refine rdH 4 rfl (fun K hK => ?_)
          go_simp
          refine (HPUT.out _ ls6).mono ?_
          rintro e W7 ⟨n, M', F', rfl, ls7, hpt, hkp⟩
          have mz7 := And.intro (mz6.1.kp hkp (fun e => e.elim mz6.2.2.1 mz6.2.2.2.2)) (And.intro mz6.2.1 (And.intro (fun hf => hpt.2.2 _ hf (mz6.1.lt) mz6.2.2.1) mz6.2.2.2))
          simp only
          refine hK.out _ _ ?_ (fun hH => ?_)
          · exact ls7.lb
          clear hK K
          refine tkH ?_ 5 hH ?_ ?_; rotate_left
          · intro W' hS; go_simp; with_reducible rfl
          simp only [tkr]
          refine tkH ?_ 6 hH ?_ ?_; rotate_left
          · intro W' hS; go_simp; with_reducible rfl
          simp only [tkr]
          refine tkH ?_ 7 hH ?_ ?_; rotate_left
          · intro W' hS; go_simp; with_reducible rfl
          simp only [tkr]
          refine rdH 9 rfl (fun K hK => ?_)
          obtain ⟨c0, c1, f0, f1⟩ := mz7.1.all
          have ne1 : ¬ z1 = z2 := mz7.2.2.2.1
          go_simp
          clear c0 c1 f0 f1
          have FIN := Lib.hid (fun W9 (h9 : Kp (fun q => q = z2) W7 W9) => (show LS w b bh 1 50 z1 M' F' W9 from ls7.kp h9 (fun q e => by
            rw [e]
            exact ⟨mz7.2.1, mz7.2.2.1, mz7.2.2.2.2, fun e => ne1 e.symm⟩)))
          have hP := (mz7.1.set0 (.int .i64 1)).set1 (.int .i64 (n : Nat))
          refine hK.out _ _ ?_ (fun hH => ?_)
          · refine (FIN.out _ ?_).lb
            repeat first
              | with_reducible exact Kp.refl _ _
              | with_reducible refine Kp.setCell ?_ (by simp) _
          clear hK K
          refine tkH ?_ 10 hH ?_ ?_; rotate_left
          · intro W' hS; go_simp; with_reducible rfl
          simp only [tkr]
          refine wpAnyH_done (by kernel_rfl) ?_ _
          refine NoPanic.normal ?_
          clear l0 l1
          go_wp2_with fail
          go_meet
          refine ⟨z2, n, M', F', rfl, rfl, hP, FIN.out _ ?_, ⟨hpt.1, hpt.2.1⟩, mz7.2⟩
          repeat first
            | with_reducible exact Kp.refl _ _
            | with_reducible refine Kp.setCell ?_ (by simp) _
      · go_simp
        have ls5 := ls4.alloc (.cells #[.int .i64 0, .int .i64 0] 33)
        have hq5 := C2.new W4 33 (.int .i64 0) (.int .i64 0)
        have mz5 := And.intro hq5 ls4.newz
        refine hK.out _ _ ?_ (fun hH => ?_)
        · exact ls5.lb
        clear hK K hq5
        generalize W4.alloc (.cells #[.int .i64 0, .int .i64 0] 33) = W5 at ls5 mz5 hH ⊢
        generalize W4.heap.size = z2 at mz5 ⊢
        refine rdH 3 rfl (fun K hK => ?_)
        go_simp
        refine (lnumber 2 W5).mono ?_
        rintro e W6 ⟨rfl, hb6⟩
        have ls6 := ls5.below hb6
        have mz6 := And.intro (mz5.1.below hb6) mz5.2
        clear hb6
        simp only
        refine hK.out _ _ ?_ (fun hH => ?_)
        · exact ls6.lb
        clear hK K
        refine rdH 4 rfl (fun K hK => ?_)
        go_simp
        refine (HPUT.out _ ls6).mono ?_
        rintro e W7 ⟨n, M', F', rfl, ls7, hpt, hkp⟩
        have mz7 := And.intro (mz6.1.kp hkp (fun e => e.elim mz6.2.2.1 mz6.2.2.2.2)) (And.intro mz6.2.1 (And.intro (fun hf => hpt.2.2 _ hf (mz6.1.lt) mz6.2.2.1) mz6.2.2.2))
        simp only
        refine hK.out _ _ ?_ (fun hH => ?_)
        · exact ls7.lb
        clear hK K
        refine tkH ?_ 5 hH ?_ ?_; rotate_left
        · intro W' hS; go_simp; with_reducible rfl
        simp only [tkr]
        refine tkH ?_ 6 hH ?_ ?_; rotate_left
        · intro W' hS; go_simp; with_reducible rfl
        simp only [tkr]
        refine tkH ?_ 7 hH ?_ ?_; rotate_left
        · intro W' hS; go_simp; with_reducible rfl
        simp only [tkr]
        refine rdH 9 rfl (fun K hK => ?_)
        obtain ⟨c0, c1, f0, f1⟩ := mz7.1.all
        have ne1 : ¬ z1 = z2 := mz7.2.2.2.1
        go_simp
        clear c0 c1 f0 f1
        have FIN := Lib.hid (fun W9 (h9 : Kp (fun q => q = z2) W7 W9) => (show LS w b bh 1 50 z1 M' F' W9 from ls7.kp h9 (fun q e => by
          rw [e]
          exact ⟨mz7.2.1, mz7.2.2.1, mz7.2.2.2.2, fun e => ne1 e.symm⟩)))
        have hP := (mz7.1.set0 (.int .i64 1)).set1 (.int .i64 (n : Nat))
        refine hK.out _ _ ?_ (fun hH => ?_)
        · refine (FIN.out _ ?_).lb
          repeat first
            | with_reducible exact Kp.refl _ _
            | with_reducible refine Kp.setCell ?_ (by simp) _
        clear hK K
        refine tkH ?_ 10 hH ?_ ?_; rotate_left
        · intro W' hS; go_simp; with_reducible rfl
        simp only [tkr]
        refine wpAnyH_done (by kernel_rfl) ?_ _
        refine NoPanic.normal ?_
        clear l0 l1
        go_wp2_with fail
        go_meet
        refine ⟨z2, n, M', F', rfl, rfl, hP, FIN.out _ ?_, ⟨hpt.1, hpt.2.1⟩, mz7.2⟩
        repeat first
          | with_reducible exact Kp.refl _ _
          | with_reducible refine Kp.setCell ?_ (by simp) _
    · go_simp
      have ls4 := ls3.alloc (.cells #[.int .i64 0, .int .i64 0] 33)
      have hq4 := C2.new W3 33 (.int .i64 0) (.int .i64 0)
      have mz4 := And.intro hq4 ls3.newz
      refine hK.out _ _ ?_ (fun hH => ?_)
      · exact ls4.lb
      clear hK K hq4
      generalize W3.alloc (.cells #[.int .i64 0, .int .i64 0] 33) = W4 at ls4 mz4 hH ⊢
      generalize W3.heap.size = z2 at mz4 ⊢
      refine rdH 2 rfl (fun K hK => ?_)
      go_simp
      refine (lnumber 1 W4).mono ?_
      rintro e W5 ⟨rfl, hb5⟩
      have ls5 := ls4.below hb5
      have mz5 := And.intro (mz4.1.below hb5) mz4.2
      clear hb5
      simp only
      refine hK.out _ _ ?_ (fun hH => ?_)
      · exact ls5.lb
      clear hK K
      refine rdH 3 rfl (fun K hK => ?_)
      go_simp
      refine (lnumber 2 W5).mono ?_
      rintro e W6 ⟨rfl, hb6⟩
      have ls6 := ls5.below hb6
      have mz6 := And.intro (mz5.1.below hb6) mz5.2
      clear hb6
      simp only
      refine hK.out _ _ ?_ (fun hH => ?_)
      · exact ls6.lb
      clear hK K
      refine rdH 4 rfl (fun K hK => ?_)
      go_simp
      refine (HPUT.out _ ls6).mono ?_
      rintro e W7 ⟨n, M', F', rfl, ls7, hpt, hkp⟩
      have mz7 := And.intro (mz6.1.kp hkp (fun e => e.elim mz6.2.2.1 mz6.2.2.2.2)) (And.intro mz6.2.1 (And.intro (fun hf => hpt.2.2 _ hf (mz6.1.lt) mz6.2.2.1) mz6.2.2.2))
      simp only
      refine hK.out _ _ ?_ (fun hH => ?_)
      · exact ls7.lb
      clear hK K
      refine tkH ?_ 5 hH ?_ ?_; rotate_left
      · intro W' hS; go_simp; with_reducible rfl
      simp only [tkr]
      refine tkH ?_ 6 hH ?_ ?_; rotate_left
      · intro W' hS; go_simp; with_reducible rfl
      simp only [tkr]
      refine tkH ?_ 7 hH ?_ ?_; rotate_left
      · intro W' hS; go_simp; with_reducible rfl
      simp only [tkr]
      refine rdH 9 rfl (fun K hK => ?_)
      obtain ⟨c0, c1, f0, f1⟩ := mz7.1.all
      have ne1 : ¬ z1 = z2 := mz7.2.2.2.1
      go_simp
      clear c0 c1 f0 f1
      have FIN := Lib.hid (fun W9 (h9 : Kp (fun q => q = z2) W7 W9) => (show LS w b bh 1 50 z1 M' F' W9 from ls7.kp h9 (fun q e => by
        rw [e]
        exact ⟨mz7.2.1, mz7.2.2.1, mz7.2.2.2.2, fun e => ne1 e.symm⟩)))
      have hP := (mz7.1.set0 (.int .i64 1)).set1 (.int .i64 (n : Nat))
      refine hK.out _ _ ?_ (fun hH => ?_)
      · refine (FIN.out _ ?_).lb
        repeat first
          | with_reducible exact Kp.refl _ _
          | with_reducible refine Kp.setCell ?_ (by simp) _
      clear hK K
      refine tkH ?_ 10 hH ?_ ?_; rotate_left
      · intro W' hS; go_simp; with_reducible rfl
      simp only [tkr]
      refine wpAnyH_done (by kernel_rfl) ?_ _
      refine NoPanic.normal ?_
      clear l0 l1
      go_wp2_with fail
      go_meet
      refine ⟨z2, n, M', F', rfl, rfl, hP, FIN.out _ ?_, ⟨hpt.1, hpt.2.1⟩, mz7.2⟩
      repeat first
        | with_reducible exact Kp.refl _ _
        | with_reducible refine Kp.setCell ?_ (by simp) _
  case rest =>
    obtain ⟨z2, n, M', F', rfl, rfl, hz2, ls, ⟨n1, hmr⟩, hzz⟩ := hcut
    have hl : putL hs ((2, 1, ⟨#[]⟩), (2, 2, ⟨#[]⟩)) [] = [((2, 1, ⟨#[]⟩), (2, 2, ⟨#[]⟩))] := rfl
    rw [hl] at hmr
    have HZ2 := Lib.hid hzz
    have HMR := Lib.hid (And.intro n1 hmr)
    have HLOOK := Lib.hid (fun (W : World) (h : LS w b bh 1 50 z1 M' F' W) => (show Calls Tryz.prog 25 #[land b bh, .agg #[.int .i64 1, .int .i64 (n : Nat)], xagg (2, 1, ⟨#[]⟩)] W fun e W' => e = .returned (.tuple #[xagg (2, 2, ⟨#[]⟩), .bool true]) ∧ Kp (fun q => q = bh) W W' ∧ LS w b bh 1 50 z1 M' F' W' from by
      have e1 : lookV (2, 1, ⟨#[]⟩) [(((2, 1, ⟨#[]⟩) : Ky), ((2, 2, ⟨#[]⟩) : Ky))] = (2, 2, ⟨#[]⟩) := by simp [lookV, lookL]
      have e2 : hasB (2, 1, ⟨#[]⟩) [(((2, 1, ⟨#[]⟩) : Ky), ((2, 2, ⟨#[]⟩) : Ky))] = true := by simp [hasB]
      refine (vLook (l := [((2, 1, ⟨#[]⟩), (2, 2, ⟨#[]⟩))]) b bh 1 n 1 (2, 1, ⟨#[]⟩) W h.ar h.ar.zero HMR.out.2.mp h.hh h.nb HHS.out ok1 (by decide)).mono ?_
      rintro e W' ⟨rfl, hk, hh⟩
      rw [e1, e2]
      exact ⟨rfl, hk, h.hash hk hh⟩))
    clear n1 hmr hl hzz HPUT
    go_upto_region 3 with fail
    go_cut [4, 5] from 18 to 23 (fun s4 s5 wd => ∃ z4 : Nat, s4 = .pointer (some ⟨z4, 0, none⟩) ∧ s5 = .bool true ∧ C3 wd z4 43 (.int .u8 2) (.int .i64 2) (.string ⟨#[]⟩) ∧ (LS w b bh 1 50 z1 M' F' wd ∧ C2 wd z2 33 (.int .i64 1) (.int .i64 (n : Nat))) ∧ (w.heap.size ≤ z4 ∧ ¬ F' z4))
    case first =>
      have l0 : ∀ W', (C2 W' z1 30 (ap b) (.pointer (some ⟨bh, 0, none⟩)) ∧ C2 W' z2 33 (.int .i64 1) (.int .i64 (n : Nat))) → W'.cell? ⟨z1, 0, none⟩ = some (ap b) := fun W' h => h.1.c0
      have l1 : ∀ W', (C2 W' z1 30 (ap b) (.pointer (some ⟨bh, 0, none⟩)) ∧ C2 W' z2 33 (.int .i64 1) (.int .i64 (n : Nat))) → W'.cell? ⟨z1, 1, none⟩ = some (.pointer (some ⟨bh, 0, none⟩)) := fun W' h => h.1.c1
      have l2 : ∀ W', (C2 W' z1 30 (ap b) (.pointer (some ⟨bh, 0, none⟩)) ∧ C2 W' z2 33 (.int .i64 1) (.int .i64 (n : Nat))) → W'.cell? ⟨z2, 0, none⟩ = some (.int .i64 1) := fun W' h => h.2.c0
      have l3 : ∀ W', (C2 W' z1 30 (ap b) (.pointer (some ⟨bh, 0, none⟩)) ∧ C2 W' z2 33 (.int .i64 1) (.int .i64 (n : Nat))) → W'.cell? ⟨z2, 1, none⟩ = some (.int .i64 (n : Nat)) := fun W' h => h.2.c1
      have ls3 := And.intro (ls.below (Below.refl _ wc).drew) (hz2.below (Below.refl _ wc).drew)
      refine wp_region_noPanic ?_
      refine wp_region_held_drew (S := (fun W' => C2 W' z1 30 (ap b) (.pointer (some ⟨bh, 0, none⟩)) ∧ C2 W' z2 33 (.int .i64 1) (.int .i64 (n : Nat)))) (by kernel_rfl) ⟨ls3.1.lb, ls3.2⟩ (fun hH => ?_)
      clear ls hz2
      generalize wc.drew = W3 at ls3 hH ⊢
      refine tkH ?_ 0 hH ?_ ?_; rotate_left
      · intro W' hS; go_simp; with_reducible rfl
      simp only [tkr]
      refine tkH ?_ 1 hH ?_ ?_; rotate_left
      · intro W' hS; go_simp; with_reducible rfl
      simp only [tkr]
      refine wpAnyH_ready (rs := [2, 7]) (by kernel_rfl) (by simp) ?_
      refine AllReadyH.cons rfl (fun K hK => ?_) (AllReadyH.cons rfl (fun K hK => ?_) AllReadyH.nil)
      · go_simp
        refine (lnumber 1 W3).mono ?_
        rintro e W4 ⟨rfl, hb4⟩
        have ls4 := And.intro (ls3.1.below hb4) (ls3.2.below hb4)
        clear hb4
        simp only
        refine hK.out _ _ ?_ (fun hH => ?_)
        · exact ⟨ls4.1.lb, ls4.2⟩
        clear hK K
        refine wpAnyH_ready (rs := [3, 7]) (by kernel_rfl) (by simp) ?_
        refine AllReadyH.cons rfl (fun K hK => ?_) (AllReadyH.cons rfl (fun K hK => ?_) AllReadyH.nil)
        · go_simp
          refine (HLOOK.out _ ls4.1).mono ?_
          rintro e W5 ⟨rfl, hk5, lz5⟩
          have ls5 := And.intro lz5 (ls4.2.kp hk5 HZ2.out.2.2.2)
          clear hk5 lz5
          simp only
          refine hK.out _ _ ?_ (fun hH => ?_)
          · exact ⟨ls5.1.lb, ls5.2⟩
          clear hK K
          refine tkH ?_ 4 hH ?_ ?_; rotate_left
          · intro W' hS; go_simp; with_reducible rfl
          simp only [tkr]
          refine tkH ?_ 5 hH ?_ ?_; rotate_left
          · intro W' hS; go_simp; with_reducible rfl
          simp only [tkr]
          refine tkH ?_ 6 hH ?_ ?_; rotate_left
          · intro W' hS; go_simp; with_reducible rfl
          simp only [tkr]
          refine rdH 7 rfl (fun K hK => ?_)
          go_simp
          have ls6 := And.intro (ls5.1.alloc (.cells #[.int .u8 0, .int .i64 0, .string ⟨#[]⟩] 43)) (ls5.2.alloc (.cells #[.int .u8 0, .int .i64 0, .string ⟨#[]⟩] 43))
          have hq6 := C3.new W5 43 (.int .u8 0) (.int .i64 0) (.string ⟨#[]⟩)
          have mz6 := And.intro hq6 (And.intro (show ¬ z2 = W5.heap.size from fun e => absurd ls5.2.lt (by rw [e]; exact Nat.lt_irrefl _)) ls5.1.newz)
          refine hK.out _ _ ?_ (fun hH => ?_)
          · exact ⟨ls6.1.lb, ls6.2⟩
          clear hK K hq6
          generalize W5.alloc (.cells #[.int .u8 0, .int .i64 0, .string ⟨#[]⟩] 43) = W6 at ls6 mz6 hH ⊢
          generalize W5.heap.size = z4 at mz6 ⊢
          refine rdH 8 rfl (fun K hK => ?_)
          obtain ⟨c0, c1, c2, f0, f1, f2⟩ := mz6.1.all
          have ne1 : ¬ z1 = z4 := mz6.2.2.2.2.1
          have ne2 : ¬ z2 = z4 := mz6.2.1
          go_simp
          clear c0 c1 c2 f0 f1 f2
          have FIN := Lib.hid (fun W9 (h9 : Kp (fun q => q = z4) W6 W9) => (show LS w b bh 1 50 z1 M' F' W9 ∧ C2 W9 z2 33 (.int .i64 1) (.int .i64 (n : Nat)) from ⟨ls6.1.kp h9 (fun q e => by
            rw [e]
            exact ⟨mz6.2.2.1, mz6.2.2.2.1, mz6.2.2.2.2.2, fun e => ne1 e.symm⟩), ls6.2.kp h9 ne2⟩))
          have hP := ((mz6.1.set0 (.int .u8 2)).set1 (.int .i64 2)).set2 (.string ⟨#[]⟩)
          refine hK.out _ _ ?_ (fun hH => ?_)
          · have hh9 : ∀ W9, Kp (fun q => q = z4) W6 W9 → (C2 W9 z1 30 (ap b) (.pointer (some ⟨bh, 0, none⟩)) ∧ C2 W9 z2 33 (.int .i64 1) (.int .i64 (n : Nat))) := fun W9 h9 => ⟨(FIN.out W9 h9).1.lb, (FIN.out W9 h9).2⟩
            refine hh9 _ ?_
            repeat first
              | with_reducible exact Kp.refl _ _
              | with_reducible refine Kp.setCell ?_ (by simp) _
          clear hK K
          refine tkH ?_ 9 hH ?_ ?_; rotate_left
          · intro W' hS; go_simp; with_reducible rfl
          simp only [tkr]
          refine wpAnyH_done (by kernel_rfl) ?_ _
          refine NoPanic.normal ?_
          clear l0 l1 l2 l3
          go_wp2_with fail
          go_meet
          refine ⟨z4, rfl, rfl, hP, FIN.out _ ?_, mz6.2.2.1, mz6.2.2.2.1⟩
          repeat first
            | with_reducible exact Kp.refl _ _
            | with_reducible refine Kp.setCell ?_ (by simp) _
        · go_simp
          have ls5 := And.intro (ls4.1.alloc (.cells #[.int .u8 0, .int .i64 0, .string ⟨#[]⟩] 43)) (ls4.2.alloc (.cells #[.int .u8 0, .int .i64 0, .string ⟨#[]⟩] 43))
          have hq5 := C3.new W4 43 (.int .u8 0) (.int .i64 0) (.string ⟨#[]⟩)
          have mz5 := And.intro hq5 (And.intro (show ¬ z2 = W4.heap.size from fun e => absurd ls4.2.lt (by rw [e]; exact Nat.lt_irrefl _)) ls4.1.newz)
          refine hK.out _ _ ?_ (fun hH => ?_)
          · exact ⟨ls5.1.lb, ls5.2⟩
          clear hK K hq5
          generalize W4.alloc (.cells #[.int .u8 0, .int .i64 0, .string ⟨#[]⟩] 43) = W5 at ls5 mz5 hH ⊢
          generalize W4.heap.size = z4 at mz5 ⊢
          refine rdH 3 rfl (fun K hK => ?_)
          go_simp
          refine (HLOOK.out _ ls5.1).mono ?_
          rintro e W6 ⟨rfl, hk6, lz6⟩
          have ls6 := And.intro lz6 (ls5.2.kp hk6 HZ2.out.2.2.2)
          have mz6 := And.intro (mz5.1.kp hk6 mz5.2.2.2.2.2) mz5.2
          clear hk6 lz6
          simp only
          refine hK.out _ _ ?_ (fun hH => ?_)
          · exact ⟨ls6.1.lb, ls6.2⟩
          clear hK K
          refine tkH ?_ 4 hH ?_ ?_; rotate_left
          · intro W' hS; go_simp; with_reducible rfl
          simp only [tkr]
          refine tkH ?_ 5 hH ?_ ?_; rotate_left
          · intro W' hS; go_simp; with_reducible rfl
          simp only [tkr]
          refine tkH ?_ 6 hH ?_ ?_; rotate_left
          · intro W' hS; go_simp; with_reducible rfl
          simp only [tkr]
          refine rdH 8 rfl (fun K hK => ?_)
          obtain ⟨c0, c1, c2, f0, f1, f2⟩ := mz6.1.all
          have ne1 : ¬ z1 = z4 := mz6.2.2.2.2.1
          have ne2 : ¬ z2 = z4 := mz6.2.1
          go_simp
          clear c0 c1 c2 f0 f1 f2
          have FIN := Lib.hid (fun W9 (h9 : Kp (fun q => q = z4) W6 W9) => (show LS w b bh 1 50 z1 M' F' W9 ∧ C2 W9 z2 33 (.int .i64 1) (.int .i64 (n : Nat)) from ⟨ls6.1.kp h9 (fun q e => by
            rw [e]
            exact ⟨mz6.2.2.1, mz6.2.2.2.1, mz6.2.2.2.2.2, fun e => ne1 e.symm⟩), ls6.2.kp h9 ne2⟩))
          have hP := ((mz6.1.set0 (.int .u8 2)).set1 (.int .i64 2)).set2 (.string ⟨#[]⟩)
          refine hK.out _ _ ?_ (fun hH => ?_)
          · have hh9 : ∀ W9, Kp (fun q => q = z4) W6 W9 → (C2 W9 z1 30 (ap b) (.pointer (some ⟨bh, 0, none⟩)) ∧ C2 W9 z2 33 (.int .i64 1) (.int .i64 (n : Nat))) := fun W9 h9 => ⟨(FIN.out W9 h9).1.lb, (FIN.out W9 h9).2⟩
            refine hh9 _ ?_
            repeat first
              | with_reducible exact Kp.refl _ _
              | with_reducible refine Kp.setCell ?_ (by simp) _
          clear hK K
          refine tkH ?_ 9 hH ?_ ?_; rotate_left
          · intro W' hS; go_simp; with_reducible rfl
          simp only [tkr]
          refine wpAnyH_done (by kernel_rfl) ?_ _
          refine NoPanic.normal ?_
          clear l0 l1 l2 l3
          go_wp2_with fail
          go_meet
          refine ⟨z4, rfl, rfl, hP, FIN.out _ ?_, mz6.2.2.1, mz6.2.2.2.1⟩
          repeat first
            | with_reducible exact Kp.refl _ _
            | with_reducible refine Kp.setCell ?_ (by simp) _
      · go_simp
        have ls4 := And.intro (ls3.1.alloc (.cells #[.int .u8 0, .int .i64 0, .string ⟨#[]⟩] 43)) (ls3.2.alloc (.cells #[.int .u8 0, .int .i64 0, .string ⟨#[]⟩] 43))
        have hq4 := C3.new W3 43 (.int .u8 0) (.int .i64 0) (.string ⟨#[]⟩)
        have mz4 := And.intro hq4 (And.intro (show ¬ z2 = W3.heap.size from fun e => absurd ls3.2.lt (by rw [e]; exact Nat.lt_irrefl _)) ls3.1.newz)
        refine hK.out _ _ ?_ (fun hH => ?_)
        · exact ⟨ls4.1.lb, ls4.2⟩
        clear hK K hq4
        generalize W3.alloc (.cells #[.int .u8 0, .int .i64 0, .string ⟨#[]⟩] 43) = W4 at ls4 mz4 hH ⊢
        generalize W3.heap.size = z4 at mz4 ⊢
        refine rdH 2 rfl (fun K hK => ?_)
        go_simp
        refine (lnumber 1 W4).mono ?_
        rintro e W5 ⟨rfl, hb5⟩
        have ls5 := And.intro (ls4.1.below hb5) (ls4.2.below hb5)
        have mz5 := And.intro (mz4.1.below hb5) mz4.2
        clear hb5
        simp only
        refine hK.out _ _ ?_ (fun hH => ?_)
        · exact ⟨ls5.1.lb, ls5.2⟩
        clear hK K
        refine rdH 3 rfl (fun K hK => ?_)
        go_simp
        refine (HLOOK.out _ ls5.1).mono ?_
        rintro e W6 ⟨rfl, hk6, lz6⟩
        have ls6 := And.intro lz6 (ls5.2.kp hk6 HZ2.out.2.2.2)
        have mz6 := And.intro (mz5.1.kp hk6 mz5.2.2.2.2.2) mz5.2
        clear hk6 lz6
        simp only
        refine hK.out _ _ ?_ (fun hH => ?_)
        · exact ⟨ls6.1.lb, ls6.2⟩
        clear hK K
        refine tkH ?_ 4 hH ?_ ?_; rotate_left
        · intro W' hS; go_simp; with_reducible rfl
        simp only [tkr]
        refine tkH ?_ 5 hH ?_ ?_; rotate_left
        · intro W' hS; go_simp; with_reducible rfl
        simp only [tkr]
        refine tkH ?_ 6 hH ?_ ?_; rotate_left
        · intro W' hS; go_simp; with_reducible rfl
        simp only [tkr]
        refine rdH 8 rfl (fun K hK => ?_)
        obtain ⟨c0, c1, c2, f0, f1, f2⟩ := mz6.1.all
        have ne1 : ¬ z1 = z4 := mz6.2.2.2.2.1
        have ne2 : ¬ z2 = z4 := mz6.2.1
        go_simp
        clear c0 c1 c2 f0 f1 f2
        have FIN := Lib.hid (fun W9 (h9 : Kp (fun q => q = z4) W6 W9) => (show LS w b bh 1 50 z1 M' F' W9 ∧ C2 W9 z2 33 (.int .i64 1) (.int .i64 (n : Nat)) from ⟨ls6.1.kp h9 (fun q e => by
          rw [e]
          exact ⟨mz6.2.2.1, mz6.2.2.2.1, mz6.2.2.2.2.2, fun e => ne1 e.symm⟩), ls6.2.kp h9 ne2⟩))
        have hP := ((mz6.1.set0 (.int .u8 2)).set1 (.int .i64 2)).set2 (.string ⟨#[]⟩)
        refine hK.out _ _ ?_ (fun hH => ?_)
        · have hh9 : ∀ W9, Kp (fun q => q = z4) W6 W9 → (C2 W9 z1 30 (ap b) (.pointer (some ⟨bh, 0, none⟩)) ∧ C2 W9 z2 33 (.int .i64 1) (.int .i64 (n : Nat))) := fun W9 h9 => ⟨(FIN.out W9 h9).1.lb, (FIN.out W9 h9).2⟩
          refine hh9 _ ?_
          repeat first
            | with_reducible exact Kp.refl _ _
            | with_reducible refine Kp.setCell ?_ (by simp) _
        clear hK K
        refine tkH ?_ 9 hH ?_ ?_; rotate_left
        · intro W' hS; go_simp; with_reducible rfl
        simp only [tkr]
        refine wpAnyH_done (by kernel_rfl) ?_ _
        refine NoPanic.normal ?_
        clear l0 l1 l2 l3
        go_wp2_with fail
        go_meet
        refine ⟨z4, rfl, rfl, hP, FIN.out _ ?_, mz6.2.2.1, mz6.2.2.2.1⟩
        repeat first
          | with_reducible exact Kp.refl _ _
          | with_reducible refine Kp.setCell ?_ (by simp) _
    case rest =>
      obtain ⟨z4, rfl, rfl, hz4, ⟨ls4, hz24⟩, h4⟩ := hcut
      obtain ⟨n1, hmr⟩ := HMR.out
      have hMn : M' n ≠ none := (hmr.bk.hand (by simp) (by omega)).1
      have hlive := live_pos (ls4.ar.top hMn).2 hMn
      have hrf : ∀ j, rf (M' j) ≤ 4611686018427387904 := fun j => by
        have h1 := bk_rf (most := 50) (by decide) (fun j => Nat.le_trans (out1_le (fun _ => 0) 0 0 j) (by decide)) hmr.bk (by show 1 ≤ 64; decide) j
        omega
      have HRF := Lib.hid hrf
      have HLV := Lib.hid hlive
      have LS4 := Lib.hid (And.intro ls4 (And.intro hz24 hz4))
      have x0 := ls4.lb.c0
      have x1 := ls4.lb.c1
      have y0 := hz24.c0
      have y1 := hz24.c1
      clear ls hz2 ls4 hz24 hz4 n1 hmr hMn hlive hrf HLOOK
      go_wp2_with fail
      obtain ⟨lv, hlv1, HLIVE⟩ : ∃ lv : Nat, 1 ≤ lv ∧ Calls Tryz.prog 20 #[ap b] wc fun e w' => e = .returned (.int .i64 (lv : Nat)) ∧ wc = w' := ⟨_, HLV.out, alive b 50 M' F' _ LS4.out.1.ar⟩
      have HLV1 := Lib.hid hlv1
      refine HLIVE.mono ?_
      clear HLIVE hlv1
      rintro e wd' ⟨rfl, rfl⟩
      go_wp2_with fail
      refine (vPairs b bh 1 n _).mono ?_
      rintro e w5 ⟨zl, zm, rfl, _, _, _, _, hb5⟩
      have LS5 := Lib.hid (And.intro (LS4.out.1.below hb5) (And.intro (LS4.out.2.1.below hb5) (LS4.out.2.2.below hb5)))
      clear x0 x1 y0 y1 hb5 LS4
      have x0 := LS5.out.1.lb.c0
      have y1 := LS5.out.2.1.c1
      go_wp2_with fail
      refine (vdrop1 n w5 LS5.out.1.ar HRF.out).mono ?_
      rintro e w6 ⟨⟨zz, rfl⟩, M9, hdr, hst⟩
      have hlv9 : live (50 + 1) M9 = 0 := by
        have hd := (HMR.out.2.bk.drop hdr).1
        have ho := hd.ok.congr (own' := fun _ => 0) (fun k hk => by
          show out1 (fun _ => 0) 0 0 k + ([] : List Nat).count k = 0
          have : ¬ k = 0 := by omega
          simp [out1, addP, this])
        have hno := ho.nobody (fun _ => rfl)
        refine live_zero (fun j => ?_)
        have := hno j
        rwa [blank_nil] at this
      have nz2 := HZ2.out
      have LS6 := Lib.hid (LS5.out.1.stp hst)
      have q26 := LS5.out.2.1.kp hst.kp nz2.2.1
      have hz4F : ¬ F' z4 := h4.2
      have q46 := LS5.out.2.2.kp hst.kp hz4F
      have ha6 : Ar w6 b 50 M9 (Fn F' w5 w6) := hst.ar
      have HS7 := Lib.hid (show S7 b bh z1 z2 z4 n M9 (Fn F' w5 w6) w6.drew from S7.mk (LS6.out.lb.below (Below.refl _ w6).drew) (q26.below (Below.refl _ w6).drew) (q46.below (Below.refl _ w6).drew) (ha6.below (Below.refl _ w6).drew))
      have HLV9 := Lib.hid hlv9
      clear x0 y1 hdr hst hlv9 nz2 q26 q46 hz4F ha6 h4
      go_upto_region 7 with fail
      have l0 : ∀ W, S7 b bh z1 z2 z4 n M9 (Fn F' w5 w6) W → W.cell? ⟨z1, 0, none⟩ = some (ap b) := fun W h => h.lb.c0
      have l2 : ∀ W, S7 b bh z1 z2 z4 n M9 (Fn F' w5 w6) W → W.cell? ⟨z2, 0, none⟩ = some (.int .i64 1) := fun W h => h.mb.c0
      have v0 : ∀ W, S7 b bh z1 z2 z4 n M9 (Fn F' w5 w6) W → W.cell? ⟨z4, 0, none⟩ = some (.int .u8 2) := fun W h => h.vb.c0
      have v1 : ∀ W, S7 b bh z1 z2 z4 n M9 (Fn F' w5 w6) W → W.cell? ⟨z4, 1, none⟩ = some (.int .i64 2) := fun W h => h.vb.c1
      have v2 : ∀ W, S7 b bh z1 z2 z4 n M9 (Fn F' w5 w6) W → W.cell? ⟨z4, 2, none⟩ = some (.string ⟨#[]⟩) := fun W h => h.vb.c2
      have e1 : ∀ W : World, Sem.run Tryz.prog (binOp .neq 56 (seqv zl zm) .nilFunc) W = .ok (.bool true) W := fun _ => by kernel_rfl
      have e2 : ∀ W : World, Sem.run Tryz.prog (binOp .eql 43 (xagg (2, 2, ⟨#[]⟩)) (xagg (2, 2, ⟨#[]⟩))) W = .ok (.bool true) W := fun _ => by kernel_rfl
      have hl0 : (0 : Int) < (lv : Int) := by have := HLV1.out; omega
      have hl1 : 0 < lv := HLV1.out
      refine wp_region_noPanic ?_
      refine wp_region_held_drew (S := fun W => S7 b bh z1 z2 z4 n M9 (Fn F' w5 w6) W) (by kernel_rfl) HS7.out (fun hH => ?_)
      have hb7 : Below w6.heap.size w6 w6.drew := (Below.refl _ w6).drew
      generalize w6.drew = W7 at hH hb7 ⊢
      refine tkH ?_ 0 hH ?_ ?_; rotate_left
      · intro W' hS; go_simp; with_reducible rfl
      simp only [tkr]
      refine tkH ?_ 1 hH ?_ ?_; rotate_left
      · intro W' hS; go_simp; with_reducible rfl
      simp only [tkr]
      refine tkH ?_ 2 hH ?_ ?_; rotate_left
      · intro W' hS; go_simp; with_reducible rfl
      simp only [tkr]
      refine tkH ?_ 3 hH ?_ ?_; rotate_left
      · intro W' hS; go_simp; with_reducible rfl
      simp only [tkr]
      refine tkH ?_ 4 hH ?_ ?_; rotate_left
      · intro W' hS; go_simp; with_reducible rfl
      simp only [tkr]
      refine tkH ?_ 5 hH ?_ ?_; rotate_left
      · intro W' hS; go_simp; with_reducible rfl
      simp only [tkr]
      refine tkH ?_ 6 hH ?_ ?_; rotate_left
      · intro W' hS; go_simp; with_reducible rfl
      simp only [tkr]
      refine tkH ?_ 7 hH ?_ ?_; rotate_left
      · intro W' hS; go_simp; with_reducible rfl
      simp only [tkr]
      refine tkH ?_ 8 hH ?_ ?_; rotate_left
      · intro W' hS; go_simp; with_reducible rfl
      simp only [tkr]
      refine tkH ?_ 9 hH ?_ ?_; rotate_left
      · intro W' hS; go_simp; with_reducible rfl
      simp only [tkr]
      refine tkH ?_ 10 hH ?_ ?_; rotate_left
      · intro W' hS; go_simp; with_reducible rfl
      simp only [tkr]
      refine rdH 11 rfl (fun K hK => ?_)
      go_simp
      refine (lnumber 2 W7).mono ?_
      rintro e W8 ⟨rfl, hb8⟩
      have s8 : S7 b bh z1 z2 z4 n M9 (Fn F' w5 w6) W8 := ⟨hH.lb.below hb8, hH.mb.below hb8, hH.vb.below hb8, hH.ar.below hb8⟩
      have hb9 := hb7.trans (hb8.mono hb7.size)
      clear hb8 hb7 hH
      simp only
      refine hK.out _ _ ?_ (fun hH => ?_)
      · exact s8
      clear hK K
      refine tkH ?_ 12 hH ?_ ?_; rotate_left
      · intro W' hS; go_simp; with_reducible rfl
      simp only [tkr]
      refine tkH ?_ 13 hH ?_ ?_; rotate_left
      · intro W' hS; go_simp; with_reducible rfl
      simp only [tkr]
      refine tkH ?_ 14 hH ?_ ?_; rotate_left
      · intro W' hS; go_simp; with_reducible rfl
      simp only [tkr]
      refine tkH ?_ 15 hH ?_ ?_; rotate_left
      · intro W' hS; go_simp; with_reducible rfl
      simp only [tkr]
      refine tkH ?_ 16 hH ?_ ?_; rotate_left
      · intro W' hS; go_simp; with_reducible rfl
      simp only [tkr]
      refine tkH ?_ 17 hH ?_ ?_; rotate_left
      · intro W' hS; go_simp; with_reducible rfl
      simp only [tkr]
      refine tkH ?_ 18 hH ?_ ?_; rotate_left
      · intro W' hS; go_simp; with_reducible rfl
      simp only [tkr]
      refine tkH ?_ 19 hH ?_ ?_; rotate_left
      · intro W' hS; go_simp; with_reducible rfl
      simp only [tkr]
      refine tkH ?_ 20 hH ?_ ?_; rotate_left
      · intro W' hS; go_simp; with_reducible rfl
      simp only [tkr]
      refine tkH ?_ 21 hH ?_ ?_; rotate_left
      · intro W' hS; go_simp; with_reducible rfl
      simp only [tkr]
      refine tkH ?_ 22 hH ?_ ?_; rotate_left
      · intro W' hS; go_simp; with_reducible rfl
      simp only [tkr]
      refine tkH ?_ 23 hH ?_ ?_; rotate_left
      · intro W' hS; go_simp; with_reducible rfl
      simp only [tkr]
      refine tkH ?_ 24 hH ?_ ?_; rotate_left
      · intro W' hS; go_simp; with_reducible rfl
      simp only [tkr]
      refine tkH ?_ 25 hH ?_ ?_; rotate_left
      · intro W' hS; go_simp; with_reducible rfl
      simp only [tkr]
      refine rdH 26 rfl (fun K hK => ?_)
      go_simp
      refine (alive b 50 M9 _ W8 s8.ar).mono ?_
      rintro e W9 ⟨rfl, rfl⟩
      rw [HLV9.out]
      clear hH
      simp only
      refine hK.out _ _ ?_ (fun hH => ?_)
      · exact s8
      clear hK K
      refine tkH ?_ 27 hH ?_ ?_; rotate_left
      · intro W' hS; go_simp; with_reducible rfl
      simp only [tkr]
      refine tkH ?_ 28 hH ?_ ?_; rotate_left
      · intro W' hS; go_simp; with_reducible rfl
      simp only [tkr]
      refine wpAnyH_take (i := 29) (v := ?_) rfl (by kernel_rfl) (by kernel_rfl) (by kernel_rfl) (fun _ _ _ h => h) (Or.inl ⟨by rfl, ?_⟩) hH ?_
      rotate_left
      · intro W' hS
        go_simp
        with_reducible rfl
      simp only [Act.put, List.setIfInBounds_toArray, List.set_cons_zero, List.getElem_toArray, List.getElem_cons_zero, List.getElem_cons_succ]
      refine wpAnyH_done (by kernel_rfl) ?_ _
      refine NoPanic.normal ?_
      have FIN := Lib.hid (LS6.out.bel.trans (hb9.mono LS6.out.bel.size))
      clear l0 l2 v0 v1 v2 e1 e2 hl0 hl1 s8 hb9 hH
      go_wp2_with fail
      exact bodyPost_ret (v := .bool true) (by simp [results, Tryz.results14, go_sem]) rfl ⟨rfl, FIN.out⟩
end
end Go.Proofs.YthcpjehkjhpjfaaGreat

/- Several texts in one. -/
import Derived.Test.YtghbbpbhbinioaaGreatMr27
import Derived.Test.YtghbbpbhbinioaaGreatMr11
set_option linter.unusedSimpArgs false
namespace Go.Proofs.YtghbbpbhbinioaaGreat
set_option maxRecDepth 100000
set_option linter.unusedSimpArgs false
set_option linter.unusedVariables false
open Go.RowKit Go.Shelf
theorem rkey (i kk : Nat) (hi : i < kk) (hk : kk ≤ 200) : ∃ m : Nat, m < kk ∧ (i = 0 → m = 0) ∧ ((i : Int) * 5).tmod (kk : Int) = (m : Int) := by
  rw [Int.tmod_eq_emod_of_nonneg (by omega)]
  have h1 := Int.emod_nonneg ((i : Int) * 5) (show (kk : Int) ≠ 0 by omega)
  have h2 := Int.emod_lt_of_pos ((i : Int) * 5) (show (0 : Int) < (kk : Int) by omega)
  refine ⟨(((i : Int) * 5) % (kk : Int)).toNat, by omega, fun h => ?_, by omega⟩
  subst h
  simp
theorem okx : OkK (3, 0, ⟨#[120]⟩) := by refine ⟨by show (0 : Int) ≤ 3; decide, by show (3 : Int) ≤ 255; decide, ?_⟩; show 17 + (⟨#[120]⟩ : ByteArray).size ≤ _; decide
theorem rhasx (l : List Pr) (hs : Srt h0 l) : hasB (3, 0, ⟨#[120]⟩) (putL h0 ((3, 0, ⟨#[120]⟩), noV) l) = true := hasB_iff.2 ⟨_, ((putL_spec hs).2 _).2 (.inl rfl), rfl⟩
theorem rnox {i : Nat} {l : List Pr} (h : Rk i l) : hasB (3, 0, ⟨#[120]⟩) l = false := by
  rw [Bool.eq_false_iff]
  intro e
  obtain ⟨q, hq, e2⟩ := hasB_iff.1 e
  obtain ⟨j, e3⟩ := h.keys q hq
  rw [e3] at e2
  simp at e2
theorem rlenx {i : Nat} {l : List Pr} (h : Rk i l) (hs : Srt h0 l) : (((putL h0 ((3, 0, ⟨#[120]⟩), noV) l).length : Nat) : Int) = (l.length : Int) + 1 := by
  rw [putL_length hs, if_neg (by rw [rnox h]; simp)]
  omega
theorem rno0 (l : List Pr) : hasB (2, 0, ⟨#[]⟩) (takeL (2, 0, ⟨#[]⟩) l) = false := by
  rw [Bool.eq_false_iff]
  intro e
  obtain ⟨q, hq, e2⟩ := hasB_iff.1 e
  unfold takeL at hq
  rw [List.mem_filter] at hq
  simp [e2] at hq
theorem takeL_length {hs : Ky → Nat} {k : Ky} : ∀ {l : List Pr}, Srt hs l → hasB k l = true → (takeL k l).length + 1 = l.length
  | [], _, h => by simp [hasB] at h
  | q :: l, hs', h => by
    have h2 := (List.pairwise_cons.1 hs')
    by_cases e : q.1 = k
    · have hno : takeL k l = l := by
        refine List.filter_eq_self.2 (fun p hp => ?_)
        have hne : p.1 ≠ k := fun e2 => by
          have := Srt.key_inj hs' (p := p) (q := q) (List.mem_cons_of_mem _ hp) List.mem_cons_self (e2.trans e.symm)
          subst this
          exact absurd (h2.1 p hp) (klt_irrefl _)
        exact decide_eq_true hne
      show ((q :: l).filter _).length + 1 = _
      rw [List.filter_cons_of_neg (by simp [e])]
      exact congrArg (fun m : List Pr => m.length + 1) hno
    · have hb : hasB k l = true := by
        unfold hasB at h ⊢
        rw [List.any_cons, decide_eq_false e, Bool.false_or] at h
        exact h
      have ih := takeL_length h2.2 hb
      show ((q :: l).filter _).length + 1 = _
      rw [List.filter_cons_of_pos (by simp [e]), List.length_cons, List.length_cons]
      exact congrArg (· + 1) ih
theorem rlen0 {i : Nat} {l : List Pr} (h : Rk i l) (hs : Srt h0 l) (hi : 1 ≤ i) : (((takeL (2, 0, ⟨#[]⟩) l).length : Nat) : Int) = (l.length : Int) - 1 := by
  have := takeL_length hs (h.zero hi)
  omega
section
set_option maxHeartbeats 64000000 in
theorem walkR (seed : Nat) (n room : Int) (w : World) : Calls Tryz.prog 6 #[.int .u64 (seed : Nat), .int .i64 n, .int .i64 room] w fun e w' => e = .returned (.bool true) ∧ Below w.heap.size w w' := by
  go_enter Tryz.func6, Tryz.ntmps6
  go_wp2_with fail
  refine (llives11 w).mono ?_
  rintro e w0 ⟨rfl, hb0⟩
  have HB0 := Lib.hid hb0
  clear hb0
  obtain ⟨kk, hk1, hk2, hkk⟩ := rwant n
  obtain ⟨lf, hl1, hlf⟩ := rleft room
  go_upto_region 4 with fail
  rw [hkk]
  have HKK := Lib.hid (And.intro hk1 (And.intro hk2 (And.intro hl1 hlf)))
  clear hk1 hk2 hkk hl1 hlf
  go_wp2_with fail
  refine (lland11 seed 4096 w0 (by decide) (by decide)).mono ?_
  rintro e w1 ⟨b, bh, rfl, ha, hh, hne, hbb, hbh, hbl⟩
  have LB := Lib.hid (And.intro ha (And.intro hh (And.intro hne (And.intro hbb (And.intro hbh hbl)))))
  have hb1 := ha.blt
  have hh1 := hh.lt
  clear ha hh hne hbb hbh hbl
  go_upto_region 6 with fail
  have hls : LS w b bh seed 4096 w1.heap.size (fun _ => none) (fun k => k = b) (w1.alloc (.cells #[ap b, .pointer (some ⟨bh, 0, none⟩)] 26)) := by
    obtain ⟨ha, hh, hne, hbb, hbh, hbl⟩ := LB.out
    have hs0 := HB0.out.size
    have hbl2 := HB0.out.trans (hbl.mono hs0)
    exact ⟨ha.alloc _, hh.alloc _, fun e => hne e.symm, C2.new _ _ _ _, ⟨fun e => by omega, by omega⟩, hbl2.alloc hbl2.size _, fun q e => by omega, ⟨hbl2.size, by omega⟩⟩
  have hls2 := hls.alloc (.cells #[.int .i64 0, .int .i64 0] 72)
  have hq4 := C2.new (w1.alloc (.cells #[ap b, .pointer (some ⟨bh, 0, none⟩)] 26)) 72 (.int .i64 0) (.int .i64 0)
  have hnz := hls.fresh11
  have hz4e : (w1.alloc (.cells #[ap b, .pointer (some ⟨bh, 0, none⟩)] 26)).heap.size = w1.heap.size + 1 := by simp
  rw [hz4e] at hq4 hnz
  clear hls hb1 hh1 hz4e
  generalize (w1.alloc (.cells #[ap b, .pointer (some ⟨bh, 0, none⟩)] 26)).alloc (.cells #[.int .i64 0, .int .i64 0] 72) = w2 at hls2 hq4 ⊢
  generalize w1.heap.size + 1 = zt at hq4 hnz ⊢
  generalize w1.heap.size = z1 at hls2 hnz ⊢
  have H2 := Lib.hid (show Rm w w2 b bh seed z1 zt [] 0 (fun _ => 0) (fun _ => none) (fun k => k = b) from ⟨hls2, hq4, hnz, bk0 4096, .nil⟩)
  clear hls2 hq4 hnz
  go_wp2_with fail
  go_loopg [37] kk (fun c' s37 wr => ∃ (i : Nat) (l : List Pr) (nn : Nat) (M : Cells) (F : Nat → Prop), i + c' = kk ∧ s37 = .int .i64 (i : Int) ∧ Rm w wr b bh seed z1 zt l nn (fun _ => 0) M F ∧ Rk i l)
  case atStart => exact ⟨0, [], 0, _, _, by omega, rfl, H2.out, ⟨Nat.le_refl _, (fun q hq => (by cases hq)), fun h => absurd h (Nat.lt_irrefl _)⟩⟩
  case round =>
    clear H2
    obtain ⟨i, l, nn, M, F, hi, rfl, hrm, hrk⟩ := hrel
    have HR := Lib.hid (And.intro hrm hrk)
    by_cases hik : i < kk
    · have hlt : (i : Int) < (kk : Int) := by omega
      have hk200 := HKK.out.2.1
      have hw1 : IntKind.i64.wrap ((i : Int) + 1) = (i : Int) + 1 := IntWalk.i64_in _ (by omega)
      have hw5 : IntKind.i64.wrap ((i : Int) * 5) = (i : Int) * 5 := IntWalk.i64_in _ (by omega)
      have hw5' : wrap64 ((i : Int) * 5) = (i : Int) * 5 := IntWalk.wrap64_in _ (by omega)
      have hkne : ¬ kk = 0 := by omega
      obtain ⟨m, hm1, hm2, hm3⟩ := rkey i kk hik hk200
      have hwm : wrap64 ((m : Nat) : Int) = (m : Int) := IntWalk.wrap64_in _ (by omega)
      have HI := Lib.hid (And.intro hi (And.intro hik (And.intro hk200 hm2)))
      clear hrm hrk hik hi hk200 hm2 hm1
      go_upto_region 10 with fail
      have l0 : ∀ W, (C2 W z1 26 (ap b) (.pointer (some ⟨bh, 0, none⟩)) ∧ C2 W zt 72 (.int .i64 (l.length : Nat)) (.int .i64 (nn : Nat))) → W.cell? ⟨z1, 0, none⟩ = some (ap b) := fun W h => h.1.c0
      have l1 : ∀ W, (C2 W z1 26 (ap b) (.pointer (some ⟨bh, 0, none⟩)) ∧ C2 W zt 72 (.int .i64 (l.length : Nat)) (.int .i64 (nn : Nat))) → W.cell? ⟨z1, 1, none⟩ = some (.pointer (some ⟨bh, 0, none⟩)) := fun W h => h.1.c1
      have t0 : ∀ W, (C2 W z1 26 (ap b) (.pointer (some ⟨bh, 0, none⟩)) ∧ C2 W zt 72 (.int .i64 (l.length : Nat)) (.int .i64 (nn : Nat))) → W.cell? ⟨zt, 0, none⟩ = some (.int .i64 (l.length : Nat)) := fun W h => h.2.c0
      have t1 : ∀ W, (C2 W z1 26 (ap b) (.pointer (some ⟨bh, 0, none⟩)) ∧ C2 W zt 72 (.int .i64 (l.length : Nat)) (.int .i64 (nn : Nat))) → W.cell? ⟨zt, 1, none⟩ = some (.int .i64 (nn : Nat)) := fun W h => h.2.c1
      have rm := HR.out.1.below (Below.refl _ wr).drew
      refine wp_region_noPanic ?_
      refine anyW_region (S := fun W => (C2 W z1 26 (ap b) (.pointer (some ⟨bh, 0, none⟩)) ∧ C2 W zt 72 (.int .i64 (l.length : Nat)) (.int .i64 (nn : Nat)))) [12, 13] (by kernel_rfl) ⟨rm.ls.lb, rm.tb⟩ (fun hH => ?_)
      generalize wr.drew = Wc at rm hH ⊢
      refine AnyW.first (i := 0) (v := ?_) (by kernel_rfl) rfl (by kernel_rfl) (by kernel_rfl) (by kernel_rfl) (fun _ _ _ h => h) (Or.inl ⟨by rfl, ?_⟩) hH ?_
      rotate_left
      · intro W' hS
        go_simp
        with_reducible rfl
      simp only [Act.put, List.setIfInBounds_toArray, List.set_cons_zero, List.set_cons_succ, List.getElem_toArray, List.getElem_cons_zero, List.getElem_cons_succ]
      refine AnyW.first (i := 1) (v := ?_) (by kernel_rfl) rfl (by kernel_rfl) (by kernel_rfl) (by kernel_rfl) (fun _ _ _ h => h) (Or.inl ⟨by rfl, ?_⟩) hH ?_
      rotate_left
      · intro W' hS
        go_simp
        with_reducible rfl
      simp only [Act.put, List.setIfInBounds_toArray, List.set_cons_zero, List.set_cons_succ, List.getElem_toArray, List.getElem_cons_zero, List.getElem_cons_succ]
      refine AnyW.first (i := 2) (v := ?_) (by kernel_rfl) rfl (by kernel_rfl) (by kernel_rfl) (by kernel_rfl) (fun _ _ _ h => h) (Or.inl ⟨by rfl, ?_⟩) hH ?_
      rotate_left
      · intro W' hS
        go_simp
        with_reducible rfl
      simp only [Act.put, List.setIfInBounds_toArray, List.set_cons_zero, List.set_cons_succ, List.getElem_toArray, List.getElem_cons_zero, List.getElem_cons_succ]
      refine AnyW.first (i := 3) (v := ?_) (by kernel_rfl) rfl (by kernel_rfl) (by kernel_rfl) (by kernel_rfl) (fun _ _ _ h => h) (Or.inl ⟨by rfl, ?_⟩) hH ?_
      rotate_left
      · intro W' hS
        go_simp
        with_reducible rfl
      simp only [Act.put, List.setIfInBounds_toArray, List.set_cons_zero, List.set_cons_succ, List.getElem_toArray, List.getElem_cons_zero, List.getElem_cons_succ]
      refine AnyW.first (i := 4) (v := ?_) (by kernel_rfl) rfl (by kernel_rfl) (by kernel_rfl) (by kernel_rfl) (fun _ _ _ h => h) (Or.inl ⟨by rfl, ?_⟩) hH ?_
      rotate_left
      · intro W' hS
        go_simp
        with_reducible rfl
      simp only [Act.put, List.setIfInBounds_toArray, List.set_cons_zero, List.set_cons_succ, List.getElem_toArray, List.getElem_cons_zero, List.getElem_cons_succ]
      refine AnyW.first (i := 5) (v := ?_) (by kernel_rfl) rfl (by kernel_rfl) (by kernel_rfl) (by kernel_rfl) (fun _ _ _ h => h) (Or.inl ⟨by rfl, ?_⟩) hH ?_
      rotate_left
      · intro W' hS
        go_simp
        with_reducible rfl
      simp only [Act.put, List.setIfInBounds_toArray, List.set_cons_zero, List.set_cons_succ, List.getElem_toArray, List.getElem_cons_zero, List.getElem_cons_succ]
      refine AnyW.first (i := 7) (v := ?_) (by kernel_rfl) rfl (by kernel_rfl) (by kernel_rfl) (by kernel_rfl) (fun _ _ _ h => h) (Or.inl ⟨by rfl, ?_⟩) hH ?_
      rotate_left
      · intro W' hS
        go_simp
        with_reducible rfl
      simp only [Act.put, List.setIfInBounds_toArray, List.set_cons_zero, List.set_cons_succ, List.getElem_toArray, List.getElem_cons_zero, List.getElem_cons_succ]
      refine AnyW.one (i := 6) (by kernel_rfl) rfl (fun K hK => ?_)
      go_simp
      refine (lnumber (m : Int) Wc).mono ?_
      rintro e Wd ⟨rfl, hb4⟩
      replace rm := rm.below hb4
      clear hb4
      simp only
      refine hK.out _ _ (.inr fun _ => ⟨rm.ls.lb, rm.tb⟩) ?_
      clear hK K hH
      have hH := And.intro rm.ls.lb rm.tb
      refine AnyW.one (i := 8) (by kernel_rfl) rfl (fun K hK => ?_)
      go_simp
      refine (rput1 rm HR.out.2 (by have := HI.out; omega) m HI.out.2.2.2).mono ?_
      rintro e We ⟨l', n', M', F', rfl, ⟨q9, ls9, oz9⟩, bk9, rk9⟩
      simp only
      refine hK.out _ _ (.inr fun _ => ⟨ls9.lb, q9⟩) ?_
      clear hK K rm hH
      have hH := And.intro ls9.lb q9
      refine AnyW.first (i := 9) (v := ?_) (by kernel_rfl) rfl (by kernel_rfl) (by kernel_rfl) (by kernel_rfl) (fun _ _ _ h => h) (Or.inl ⟨by rfl, ?_⟩) hH ?_
      rotate_left
      · intro W' hS
        go_simp
        with_reducible rfl
      simp only [Act.put, List.setIfInBounds_toArray, List.set_cons_zero, List.set_cons_succ, List.getElem_toArray, List.getElem_cons_zero, List.getElem_cons_succ]
      refine AnyW.first (i := 10) (v := ?_) (by kernel_rfl) rfl (by kernel_rfl) (by kernel_rfl) (by kernel_rfl) (fun _ _ _ h => h) (Or.inl ⟨by rfl, ?_⟩) hH ?_
      rotate_left
      · intro W' hS
        go_simp
        with_reducible rfl
      simp only [Act.put, List.setIfInBounds_toArray, List.set_cons_zero, List.set_cons_succ, List.getElem_toArray, List.getElem_cons_zero, List.getElem_cons_succ]
      refine AnyW.firstV (i := 11) (v := ?_) rfl (by kernel_rfl) (by kernel_rfl) (by kernel_rfl) (fun _ _ _ h => h) (Or.inl ⟨by rfl, ?_⟩) ?_
      rotate_left
      · intro W' hS
        go_simp
        with_reducible rfl
      simp only [Act.put, List.setIfInBounds_toArray, List.set_cons_zero, List.set_cons_succ, List.getElem_toArray, List.getElem_cons_zero, List.getElem_cons_succ]
      refine AnyW.one (i := 12) (by kernel_rfl) rfl (fun K hK => ?_)
      obtain ⟨m0, m1, g0, g1⟩ := q9.all
      go_simp
      clear m0 m1 g0 g1
      have hk : Kp (fun q => q = zt) We ((We.setCell ⟨zt, 0, none⟩ (.int .i64 (l'.length : Nat))).setCell ⟨zt, 1, none⟩ (.int .i64 (n' : Nat))) := ((Kp.refl (fun q => q = zt) We).setCell (.inl rfl) _).setCell (.inl rfl) _
      have ls10 := ls9.kp hk (fun q e => by
        rw [e]
        exact ⟨oz9.1, oz9.2.1, oz9.2.2.2, fun e => oz9.2.2.1 e.symm⟩)
      have q10 := (q9.set0 (.int .i64 (l'.length : Nat))).set1 (.int .i64 (n' : Nat))
      generalize (We.setCell ⟨zt, 0, none⟩ (.int .i64 (l'.length : Nat))).setCell ⟨zt, 1, none⟩ (.int .i64 (n' : Nat)) = W10 at ls10 q10 ⊢
      refine hK.out _ _ (.inl (by simp)) ?_
      clear hK K hk hH
      refine AnyW.one (i := 13) (by kernel_rfl) rfl (fun K hK => ?_)
      go_simp
      refine hK.out _ _ (.inl (by simp)) ?_
      clear hK K
      refine AnyW.done (by kernel_rfl) ?_ _
      refine NoPanic.normal ?_
      clear l0 l1 t0 t1
      have HE := Lib.hid (And.intro (show Rm w W10 b bh seed z1 zt l' n' (fun _ => 0) M' F' from ⟨ls10, q10, oz9, bk9.1, bk9.2⟩) rk9)
      clear ls9 ls10 q9 q10 bk9 rk9 oz9
      go_wp2_with fail
      go_roundg (kk - (i + 1))
      case measure => have := HI.out; omega
      case rel => exact ⟨i + 1, l', n', M', F', by have := HI.out; omega, by go_num, HE.out⟩
    · have hlt : ¬ (i : Int) < (kk : Int) := by omega
      obtain rfl : i = kk := by omega
      clear hrm hrk hi hik
      go_upto_region 14 with fail
      have hlv : live (4096 + 1) M = l.length := live_alone HR.out.1.bk (fun k h0 hc => by
        rw [Nat.zero_add] at hc
        have h1 := List.count_pos_iff.1 hc
        simpa using h1) HR.out.1.tt
      have HLV := Lib.hid hlv
      clear hlv hlt
      have l0 : ∀ W, (C2 W z1 26 (ap b) (.pointer (some ⟨bh, 0, none⟩)) ∧ C2 W zt 72 (.int .i64 (l.length : Nat)) (.int .i64 (nn : Nat))) → W.cell? ⟨z1, 0, none⟩ = some (ap b) := fun W h => h.1.c0
      have t0 : ∀ W, (C2 W z1 26 (ap b) (.pointer (some ⟨bh, 0, none⟩)) ∧ C2 W zt 72 (.int .i64 (l.length : Nat)) (.int .i64 (nn : Nat))) → W.cell? ⟨zt, 0, none⟩ = some (.int .i64 (l.length : Nat)) := fun W h => h.2.c0
      have rm := HR.out.1.below (Below.refl _ wr).drew
      refine wp_region_noPanic ?_
      refine anyW_region (S := fun W => (C2 W z1 26 (ap b) (.pointer (some ⟨bh, 0, none⟩)) ∧ C2 W zt 72 (.int .i64 (l.length : Nat)) (.int .i64 (nn : Nat)))) [] (by kernel_rfl) ⟨rm.ls.lb, rm.tb⟩ (fun hH => ?_)
      generalize wr.drew = Wc at rm hH ⊢
      refine AnyW.first (i := 0) (v := ?_) (by kernel_rfl) rfl (by kernel_rfl) (by kernel_rfl) (by kernel_rfl) (fun _ _ _ h => h) (Or.inl ⟨by rfl, ?_⟩) hH ?_
      rotate_left
      · intro W' hS
        go_simp
        with_reducible rfl
      simp only [Act.put, List.setIfInBounds_toArray, List.set_cons_zero, List.set_cons_succ, List.getElem_toArray, List.getElem_cons_zero, List.getElem_cons_succ]
      refine AnyW.first (i := 1) (v := ?_) (by kernel_rfl) rfl (by kernel_rfl) (by kernel_rfl) (by kernel_rfl) (fun _ _ _ h => h) (Or.inl ⟨by rfl, ?_⟩) hH ?_
      rotate_left
      · intro W' hS
        go_simp
        with_reducible rfl
      simp only [Act.put, List.setIfInBounds_toArray, List.set_cons_zero, List.set_cons_succ, List.getElem_toArray, List.getElem_cons_zero, List.getElem_cons_succ]
      refine AnyW.first (i := 3) (v := ?_) (by kernel_rfl) rfl (by kernel_rfl) (by kernel_rfl) (by kernel_rfl) (fun _ _ _ h => h) (Or.inl ⟨by rfl, ?_⟩) hH ?_
      rotate_left
      · intro W' hS
        go_simp
        with_reducible rfl
      simp only [Act.put, List.setIfInBounds_toArray, List.set_cons_zero, List.set_cons_succ, List.getElem_toArray, List.getElem_cons_zero, List.getElem_cons_succ]
      refine AnyW.first (i := 4) (v := ?_) (by kernel_rfl) rfl (by kernel_rfl) (by kernel_rfl) (by kernel_rfl) (fun _ _ _ h => h) (Or.inl ⟨by rfl, ?_⟩) hH ?_
      rotate_left
      · intro W' hS
        go_simp
        with_reducible rfl
      simp only [Act.put, List.setIfInBounds_toArray, List.set_cons_zero, List.set_cons_succ, List.getElem_toArray, List.getElem_cons_zero, List.getElem_cons_succ]
      refine AnyW.one (i := 2) (by kernel_rfl) rfl (fun K hK => ?_)
      go_simp
      refine (alive b 4096 M F _ rm.ls.ar).mono ?_
      rintro e Wd ⟨rfl, rfl⟩
      rw [HLV.out]
      simp only
      refine hK.out _ _ (.inr fun _ => hH) ?_
      clear hK K
      refine AnyW.first (i := 5) (v := ?_) (by kernel_rfl) rfl (by kernel_rfl) (by kernel_rfl) (by kernel_rfl) (fun _ _ _ h => h) (Or.inl ⟨by rfl, ?_⟩) hH ?_
      rotate_left
      · intro W' hS
        go_simp
        with_reducible rfl
      simp only [Act.put, List.setIfInBounds_toArray, List.set_cons_zero, List.set_cons_succ, List.getElem_toArray, List.getElem_cons_zero, List.getElem_cons_succ]
      refine AnyW.done (by kernel_rfl) ?_ _
      refine NoPanic.normal ?_
      clear l0 t0 hH
      have HM := Lib.hid (And.intro rm (And.intro HR.out.2 HLV.out))
      clear rm HR HLV
      go_wp2_with fail
      go_loopg [] (4096 - l.length) (fun c' wr => ∃ (P : Nat → Nat) (M : Cells) (F : Nat → Prop), Rm w wr b bh seed z1 zt l nn P M F ∧ live (4096 + 1) M + c' = 4096 ∧ ∀ j, P j + c' ≤ 4096)
      case atStart => exact ⟨_, M, F, HM.out.1, by have := HM.out.2.1.len; have := HKK.out.2.1; have := HM.out.2.2; omega, fun j => by omega⟩
      case round =>
        obtain ⟨P, M1, F1, rm, hlv, hP⟩ := hrel
        obtain ⟨lv, hlve⟩ : ∃ lv, lv = live (4096 + 1) M1 := ⟨_, rfl⟩
        rw [← hlve] at hlv
        have HC := Lib.hid (And.intro hlv (And.intro hP hlve))
        have RM := Lib.hid rm
        have x0 := rm.ls.lb.c0
        clear rm hlv hP
        go_wp2_with fail
        have hro := aroom b 4096 M1 F1 _ RM.out.ls.ar
        rw [← hlve] at hro
        clear hlve
        refine hro.mono ?_
        rintro e w5 ⟨rfl, kd, rfl⟩
        have hbd := below_drewN wr kd
        have RM2 := Lib.hid (RM.out.below hbd)
        clear x0 hbd RM hro
        generalize wr.drewN kd = W5 at RM2 ⊢
        have x0 := RM2.out.ls.lb.c0
        have hlf := HKK.out.2.2.2
        by_cases hmore : (lf : Int) < 4096 - (lv : Int)
        · go_wp2_with fail
          refine (rmake RM2.out (by have := HC.out.2.2; omega)).mono ?_
          rintro e w6 ⟨i6, M6, F6, rfl, rm6, hl6⟩
          have HN := Lib.hid (And.intro rm6 hl6)
          clear rm6 hl6 x0 hlf
          go_wp2_with fail
          go_roundg (gk - 1)
          case measure => have := HC.out.1; omega
          case rel => exact ⟨_, M6, F6, HN.out.1, by have := HN.out.2; have := HC.out; omega, fun j => by
            have h1 := HC.out.2.1 j
            have h2 := HC.out.1
            unfold addP
            split <;> omega⟩
        · go_upto_region 18 with fail
          clear x0 hlf hmore
          have HP := Lib.hid (fun j => show P j ≤ 4096 from by have := HC.out.2.1 j; omega)
          have HLV := Lib.hid HC.out.2.2
          have HLL := Lib.hid (show lv ≤ 4096 by have := HC.out.1; omega)
          have HK := Lib.hid HM.out.2.1
          clear HC HM
          go_cut [12, 13] from 73 to 78 (fun s12 s13 wc => ∃ zl, s12 = .int .i64 (lv : Nat) ∧ s13 = .pointer (some ⟨zl, 0, none⟩) ∧ Rm w wc b bh seed z1 zt l nn P M1 F1 ∧ C1 wc zl 3 (.int .i64 (4096 - (lv : Int))) ∧ Own11 w F1 z1 bh zl)
          case first =>
            have l0 : ∀ W, C2 W z1 26 (ap b) (.pointer (some ⟨bh, 0, none⟩)) → W.cell? ⟨z1, 0, none⟩ = some (ap b) := fun W h => h.c0
            have rm := RM2.out.below (Below.refl _ W5).drew
            refine wp_region_noPanic ?_
            refine wp_region_held_drew (S := fun W => C2 W z1 26 (ap b) (.pointer (some ⟨bh, 0, none⟩))) (by kernel_rfl) rm.ls.lb (fun hH => ?_)
            generalize W5.drew = Wc at rm hH ⊢
            clear RM2 W5
            refine tkH ?_ 0 hH ?_ ?_; rotate_left
            · intro W' hS; go_simp; with_reducible rfl
            simp only [tkr]
            refine tkH ?_ 1 hH ?_ ?_; rotate_left
            · intro W' hS; go_simp; with_reducible rfl
            simp only [tkr]
            refine tkH ?_ 3 hH ?_ ?_; rotate_left
            · intro W' hS; go_simp; with_reducible rfl
            simp only [tkr]
            refine tkH ?_ 4 hH ?_ ?_; rotate_left
            · intro W' hS; go_simp; with_reducible rfl
            simp only [tkr]
            refine wpAnyH_ready (rs := [2, 6]) (by kernel_rfl) (by simp) ?_
            refine AllReadyH.cons rfl (fun K hK => ?_) (AllReadyH.cons rfl (fun K hK => ?_) (AllReadyH.nil))
            · go_simp
              refine (alive b 4096 M1 F1 _ rm.ls.ar).mono ?_
              rintro e Wd ⟨rfl, rfl⟩
              rw [← HLV.out]
              simp only
              refine hK.out _ _ ?_ (fun hH => ?_)
              · exact rm.ls.lb
              clear hK K
              refine wpAnyH_ready (rs := [5, 6]) (by kernel_rfl) (by simp) ?_
              refine AllReadyH.cons rfl (fun K hK => ?_) (AllReadyH.cons rfl (fun K hK => ?_) (AllReadyH.nil))
              · go_simp
                have hro := aroom b 4096 M1 F1 _ rm.ls.ar
                rw [← HLV.out] at hro
                refine hro.mono ?_
                rintro e Wd ⟨rfl, kd, rfl⟩
                have hbd := below_drewN Wc kd
                replace rm := rm.below hbd
                try replace a13 := a13.below hbd
                clear hbd hro
                generalize Wc.drewN kd = Wd at *
                simp only
                refine hK.out _ _ ?_ (fun hH => ?_)
                · exact rm.ls.lb
                clear hK K
                rename World => Wc
                refine rdH 6 rfl (fun K hK => ?_)
                go_simp
                have a13 := C1.new Wc 3 (.int .i64 0)
                have oz13 := rm.ls.fresh11
                have hbd : Below Wc.heap.size Wc (Wc.alloc (.cells #[.int .i64 0] 3)) := (Below.refl _ Wc).alloc (Nat.le_refl _) _
                have hz13 : zt ≠ Wc.heap.size := fun e => by have := rm.tb.lt; omega
                replace rm := rm.below hbd
                clear hbd
                refine hK.out _ _ ?_ (fun hH => ?_)
                · exact rm.ls.lb
                clear hK K
                generalize World.alloc _ _ = Wn at rm a13 hH ⊢
                generalize Wc.heap.size = zl at a13 oz13 hz13 ⊢
                rename World => Wc
                refine tkH ?_ 7 hH ?_ ?_; rotate_left
                · intro W' hS; go_simp; with_reducible rfl
                simp only [tkr]
                refine rdH 8 rfl (fun K hK => ?_)
                obtain ⟨c0, f0⟩ := a13.all
                go_simp
                clear c0 f0
                have kz : Kp (fun q => q = zl) Wc (Wc.setCell ⟨zl, 0, none⟩ (.int .i64 (4096 - (lv : Int)))) := (Kp.refl (fun q => q = zl) Wc).setCell (.inl rfl) _
                replace rm := rm.kp kz (fun q e => by rw [e]; exact oz13) hz13
                replace a13 := a13.set (.int .i64 (4096 - (lv : Int)))
                refine hK.out _ _ ?_ (fun hH => ?_)
                · exact rm.ls.lb
                clear hK K kz
                refine wpAnyH_done (by kernel_rfl) ?_ _
                refine NoPanic.normal ?_
                clear l0
                go_wp2_with fail
                go_meet
                exact ⟨zl, rfl, rfl, rm, a13, oz13⟩
              · go_simp
                have a13 := C1.new Wc 3 (.int .i64 0)
                have oz13 := rm.ls.fresh11
                have hbd : Below Wc.heap.size Wc (Wc.alloc (.cells #[.int .i64 0] 3)) := (Below.refl _ Wc).alloc (Nat.le_refl _) _
                have hz13 : zt ≠ Wc.heap.size := fun e => by have := rm.tb.lt; omega
                replace rm := rm.below hbd
                clear hbd
                refine hK.out _ _ ?_ (fun hH => ?_)
                · exact rm.ls.lb
                clear hK K
                generalize World.alloc _ _ = Wn at rm a13 hH ⊢
                generalize Wc.heap.size = zl at a13 oz13 hz13 ⊢
                rename World => Wc
                refine rdH 5 rfl (fun K hK => ?_)
                go_simp
                have hro := aroom b 4096 M1 F1 _ rm.ls.ar
                rw [← HLV.out] at hro
                refine hro.mono ?_
                rintro e Wd ⟨rfl, kd, rfl⟩
                have hbd := below_drewN Wc kd
                replace rm := rm.below hbd
                try replace a13 := a13.below hbd
                clear hbd hro
                generalize Wc.drewN kd = Wd at *
                simp only
                refine hK.out _ _ ?_ (fun hH => ?_)
                · exact rm.ls.lb
                clear hK K
                rename World => Wc
                refine tkH ?_ 7 hH ?_ ?_; rotate_left
                · intro W' hS; go_simp; with_reducible rfl
                simp only [tkr]
                refine rdH 8 rfl (fun K hK => ?_)
                obtain ⟨c0, f0⟩ := a13.all
                go_simp
                clear c0 f0
                have kz : Kp (fun q => q = zl) Wc (Wc.setCell ⟨zl, 0, none⟩ (.int .i64 (4096 - (lv : Int)))) := (Kp.refl (fun q => q = zl) Wc).setCell (.inl rfl) _
                replace rm := rm.kp kz (fun q e => by rw [e]; exact oz13) hz13
                replace a13 := a13.set (.int .i64 (4096 - (lv : Int)))
                refine hK.out _ _ ?_ (fun hH => ?_)
                · exact rm.ls.lb
                clear hK K kz
                refine wpAnyH_done (by kernel_rfl) ?_ _
                refine NoPanic.normal ?_
                clear l0
                go_wp2_with fail
                go_meet
                exact ⟨zl, rfl, rfl, rm, a13, oz13⟩
            · go_simp
              have a13 := C1.new Wc 3 (.int .i64 0)
              have oz13 := rm.ls.fresh11
              have hbd : Below Wc.heap.size Wc (Wc.alloc (.cells #[.int .i64 0] 3)) := (Below.refl _ Wc).alloc (Nat.le_refl _) _
              have hz13 : zt ≠ Wc.heap.size := fun e => by have := rm.tb.lt; omega
              replace rm := rm.below hbd
              clear hbd
              refine hK.out _ _ ?_ (fun hH => ?_)
              · exact rm.ls.lb
              clear hK K
              generalize World.alloc _ _ = Wn at rm a13 hH ⊢
              generalize Wc.heap.size = zl at a13 oz13 hz13 ⊢
              rename World => Wc
              refine rdH 2 rfl (fun K hK => ?_)
              go_simp
              refine (alive b 4096 M1 F1 _ rm.ls.ar).mono ?_
              rintro e Wd ⟨rfl, rfl⟩
              rw [← HLV.out]
              simp only
              refine hK.out _ _ ?_ (fun hH => ?_)
              · exact rm.ls.lb
              clear hK K
              refine rdH 5 rfl (fun K hK => ?_)
              go_simp
              have hro := aroom b 4096 M1 F1 _ rm.ls.ar
              rw [← HLV.out] at hro
              refine hro.mono ?_
              rintro e Wd ⟨rfl, kd, rfl⟩
              have hbd := below_drewN Wc kd
              replace rm := rm.below hbd
              try replace a13 := a13.below hbd
              clear hbd hro
              generalize Wc.drewN kd = Wd at *
              simp only
              refine hK.out _ _ ?_ (fun hH => ?_)
              · exact rm.ls.lb
              clear hK K
              rename World => Wc
              refine tkH ?_ 7 hH ?_ ?_; rotate_left
              · intro W' hS; go_simp; with_reducible rfl
              simp only [tkr]
              refine rdH 8 rfl (fun K hK => ?_)
              obtain ⟨c0, f0⟩ := a13.all
              go_simp
              clear c0 f0
              have kz : Kp (fun q => q = zl) Wc (Wc.setCell ⟨zl, 0, none⟩ (.int .i64 (4096 - (lv : Int)))) := (Kp.refl (fun q => q = zl) Wc).setCell (.inl rfl) _
              replace rm := rm.kp kz (fun q e => by rw [e]; exact oz13) hz13
              replace a13 := a13.set (.int .i64 (4096 - (lv : Int)))
              refine hK.out _ _ ?_ (fun hH => ?_)
              · exact rm.ls.lb
              clear hK K kz
              refine wpAnyH_done (by kernel_rfl) ?_ _
              refine NoPanic.normal ?_
              clear l0
              go_wp2_with fail
              go_meet
              exact ⟨zl, rfl, rfl, rm, a13, oz13⟩
          case rest =>
            obtain ⟨zl, rfl, rfl, rm, a13, oz13⟩ := hcut
            have RM := Lib.hid rm
            go_upto_region 19 with fail
            go_cut [14, 15] from 79 to 86 (fun s14 s15 wd => ∃ (zu : Nat) (N' n' er' : Int), s14 = .pointer (some ⟨zu, 0, none⟩) ∧ s15 = .int .i64 er' ∧ RC w wd b bh seed z1 zt l nn P M1 F1 (putL h0 ((3, 0, ⟨#[120]⟩), noV) l) [zu, zl] N' n' er' ∧ C2 wd zu 72 (.int .i64 N') (.int .i64 n') ∧ C1 wd zl 3 (.int .i64 (4096 - (lv : Int))))
            case first =>
              have l0 : ∀ W, (C2 W z1 26 (ap b) (.pointer (some ⟨bh, 0, none⟩)) ∧ C2 W zt 72 (.int .i64 (l.length : Nat)) (.int .i64 (nn : Nat))) → W.cell? ⟨z1, 0, none⟩ = some (ap b) := fun W h => h.1.c0
              have l1 : ∀ W, (C2 W z1 26 (ap b) (.pointer (some ⟨bh, 0, none⟩)) ∧ C2 W zt 72 (.int .i64 (l.length : Nat)) (.int .i64 (nn : Nat))) → W.cell? ⟨z1, 1, none⟩ = some (.pointer (some ⟨bh, 0, none⟩)) := fun W h => h.1.c1
              have t0 : ∀ W, (C2 W z1 26 (ap b) (.pointer (some ⟨bh, 0, none⟩)) ∧ C2 W zt 72 (.int .i64 (l.length : Nat)) (.int .i64 (nn : Nat))) → W.cell? ⟨zt, 0, none⟩ = some (.int .i64 (l.length : Nat)) := fun W h => h.2.c0
              have t1 : ∀ W, (C2 W z1 26 (ap b) (.pointer (some ⟨bh, 0, none⟩)) ∧ C2 W zt 72 (.int .i64 (l.length : Nat)) (.int .i64 (nn : Nat))) → W.cell? ⟨zt, 1, none⟩ = some (.int .i64 (nn : Nat)) := fun W h => h.2.c1
              have hl200 : l.length ≤ 200 := by have := HK.out.len; have := HKK.out.2.1; omega
              have hP5 : ∀ j, P j ≤ 5000 := fun j => by have := HP.out j; omega
              have hbd := (Below.refl wc.heap.size wc).drew
              replace rm := rm.below hbd
              replace a13 := a13.below hbd
              clear hbd
              refine wp_region_noPanic ?_
              refine wp_region_held_drew (S := fun W => (C2 W z1 26 (ap b) (.pointer (some ⟨bh, 0, none⟩)) ∧ C2 W zt 72 (.int .i64 (l.length : Nat)) (.int .i64 (nn : Nat)))) (by kernel_rfl) ⟨rm.ls.lb, rm.tb⟩ (fun hH => ?_)
              generalize wc.drew = Wc at rm a13 hH ⊢
              refine tkH ?_ 0 hH ?_ ?_; rotate_left
              · intro W' hS; go_simp; with_reducible rfl
              simp only [tkr]
              refine tkH ?_ 1 hH ?_ ?_; rotate_left
              · intro W' hS; go_simp; with_reducible rfl
              simp only [tkr]
              refine tkH ?_ 3 hH ?_ ?_; rotate_left
              · intro W' hS; go_simp; with_reducible rfl
              simp only [tkr]
              refine wpAnyH_ready (rs := [2, 8]) (by kernel_rfl) (by simp) ?_
              refine AllReadyH.cons rfl (fun K hK => ?_) (AllReadyH.cons rfl (fun K hK => ?_) (AllReadyH.nil))
              · go_simp
                refine (ltextx ⟨#[120]⟩ Wc).mono ?_
                rintro x Wd ⟨rfl, hbd⟩
                replace rm := rm.below hbd
                replace a13 := a13.below hbd
                try replace aN := aN.below hbd
                clear hbd
                simp only
                refine hK.out _ _ ?_ (fun hH => ?_)
                · exact ⟨rm.ls.lb, rm.tb⟩
                clear hK K
                rename World => Wc
                refine wpAnyH_ready (rs := [4, 8]) (by kernel_rfl) (by simp) ?_
                refine AllReadyH.cons rfl (fun K hK => ?_) (AllReadyH.cons rfl (fun K hK => ?_) (AllReadyH.nil))
                · go_simp
                  first
                  | have oM : Own11 w F1 z1 bh zn := oN
                    have hzs : ∀ z ∈ [zn, zl], Own11 w F1 z1 bh z ∧ z < Wc.heap.size := by
                      intro z hz
                      simp only [List.mem_cons, List.not_mem_nil, or_false] at hz
                      rcases hz with rfl | rfl
                      · exact ⟨oN, aN.lt⟩
                      · exact ⟨oz13, a13.lt⟩
                    refine (rputx rm hP5 hl200 (3, 0, ⟨#[120]⟩) noV okx [zn, zl] hzs).mono ?_
                    clear hzs oM
                  | have hzs : ∀ z ∈ [zl], Own11 w F1 z1 bh z ∧ z < Wc.heap.size := by
                      intro z hz
                      simp only [List.mem_cons, List.not_mem_nil, or_false] at hz
                      rcases hz with rfl
                      · exact ⟨oz13, a13.lt⟩
                    refine (rputx rm hP5 hl200 (3, 0, ⟨#[120]⟩) noV okx [zl] hzs).mono ?_
                    clear hzs
                  rintro x Wd ⟨N', n', er', rfl, rc, hkp⟩
                  replace a13 := a13.kp hkp oz13.not
                  try replace aN := aN.kp hkp oN.not
                  clear hkp rm
                  simp only
                  refine hK.out _ _ ?_ (fun hH => ?_)
                  · exact ⟨rc.lb, rc.tb⟩
                  clear hK K
                  rename World => Wc
                  refine tkH ?_ 5 hH ?_ ?_; rotate_left
                  · intro W' hS; go_simp; with_reducible rfl
                  simp only [tkr]
                  refine tkH ?_ 6 hH ?_ ?_; rotate_left
                  · intro W' hS; go_simp; with_reducible rfl
                  simp only [tkr]
                  refine tkH ?_ 7 hH ?_ ?_; rotate_left
                  · intro W' hS; go_simp; with_reducible rfl
                  simp only [tkr]
                  refine rdH 8 rfl (fun K hK => ?_)
                  go_simp
                  have aN := C2.new Wc 72 (.int .i64 0) (.int .i64 0)
                  have hbd : Below Wc.heap.size Wc (Wc.alloc (.cells #[.int .i64 0, .int .i64 0] 72)) := (Below.refl _ Wc).alloc (Nat.le_refl _) _
                  have hn0 : zl ≠ Wc.heap.size := fun e => by have := a13.lt; omega
                  replace a13 := a13.below hbd
                  first
                  | have hnl := rm.tb.lt
                    have hnt : zt ≠ Wc.heap.size := fun e => by omega
                    have oN := rm.ls.fresh11
                    replace rm := rm.below hbd
                  | have hnl := rc.tb.lt
                    have hnt : zt ≠ Wc.heap.size := fun e => by omega
                    have oN := True.intro
                    replace rc := rc.alloc (.cells #[.int .i64 0, .int .i64 0] 72)
                  clear hbd hnl
                  refine hK.out _ _ ?_ (fun hH => ?_)
                  · first
                    | exact ⟨rm.ls.lb, rm.tb⟩
                    | exact ⟨rc.lb, rc.tb⟩
                  clear hK K
                  generalize hWn : World.alloc _ _ = Wn at *
                  generalize hzn : Wc.heap.size = zn at *
                  clear hWn hzn
                  rename World => Wc
                  refine rdH 9 rfl (fun K hK => ?_)
                  obtain ⟨m0, m1, g0, g1⟩ := aN.all
                  go_simp
                  clear m0 m1 g0 g1
                  have kz : Kp (fun q => q = zn) Wc ((Wc.setCell ⟨zn, 0, none⟩ (.int .i64 N')).setCell ⟨zn, 1, none⟩ (.int .i64 n')) := ((Kp.refl (fun q => q = zn) Wc).setCell (.inl rfl) _).setCell (.inl rfl) _
                  replace rc := rc.store kz hnt
                  replace aN := (aN.set0 (.int .i64 N')).set1 (.int .i64 n')
                  replace a13 := a13.kp kz hn0
                  refine hK.out _ _ ?_ (fun hH => ?_)
                  · exact ⟨rc.lb, rc.tb⟩
                  clear hK K kz
                  refine tkH ?_ 10 hH ?_ ?_; rotate_left
                  · intro W' hS; go_simp; with_reducible rfl
                  simp only [tkr]
                  refine wpAnyH_done (by kernel_rfl) ?_ _
                  refine NoPanic.normal ?_
                  clear l0 l1 t0 t1
                  go_wp2_with fail
                  go_meet
                  exact ⟨zn, N', n', er', rfl, rfl, rc, aN, a13⟩
                · go_simp
                  have aN := C2.new Wc 72 (.int .i64 0) (.int .i64 0)
                  have hbd : Below Wc.heap.size Wc (Wc.alloc (.cells #[.int .i64 0, .int .i64 0] 72)) := (Below.refl _ Wc).alloc (Nat.le_refl _) _
                  have hn0 : zl ≠ Wc.heap.size := fun e => by have := a13.lt; omega
                  replace a13 := a13.below hbd
                  first
                  | have hnl := rm.tb.lt
                    have hnt : zt ≠ Wc.heap.size := fun e => by omega
                    have oN := rm.ls.fresh11
                    replace rm := rm.below hbd
                  | have hnl := rc.tb.lt
                    have hnt : zt ≠ Wc.heap.size := fun e => by omega
                    have oN := True.intro
                    replace rc := rc.alloc (.cells #[.int .i64 0, .int .i64 0] 72)
                  clear hbd hnl
                  refine hK.out _ _ ?_ (fun hH => ?_)
                  · first
                    | exact ⟨rm.ls.lb, rm.tb⟩
                    | exact ⟨rc.lb, rc.tb⟩
                  clear hK K
                  generalize hWn : World.alloc _ _ = Wn at *
                  generalize hzn : Wc.heap.size = zn at *
                  clear hWn hzn
                  rename World => Wc
                  refine rdH 4 rfl (fun K hK => ?_)
                  go_simp
                  first
                  | have oM : Own11 w F1 z1 bh zn := oN
                    have hzs : ∀ z ∈ [zn, zl], Own11 w F1 z1 bh z ∧ z < Wc.heap.size := by
                      intro z hz
                      simp only [List.mem_cons, List.not_mem_nil, or_false] at hz
                      rcases hz with rfl | rfl
                      · exact ⟨oN, aN.lt⟩
                      · exact ⟨oz13, a13.lt⟩
                    refine (rputx rm hP5 hl200 (3, 0, ⟨#[120]⟩) noV okx [zn, zl] hzs).mono ?_
                    clear hzs oM
                  | have hzs : ∀ z ∈ [zl], Own11 w F1 z1 bh z ∧ z < Wc.heap.size := by
                      intro z hz
                      simp only [List.mem_cons, List.not_mem_nil, or_false] at hz
                      rcases hz with rfl
                      · exact ⟨oz13, a13.lt⟩
                    refine (rputx rm hP5 hl200 (3, 0, ⟨#[120]⟩) noV okx [zl] hzs).mono ?_
                    clear hzs
                  rintro x Wd ⟨N', n', er', rfl, rc, hkp⟩
                  replace a13 := a13.kp hkp oz13.not
                  try replace aN := aN.kp hkp oN.not
                  clear hkp rm
                  simp only
                  refine hK.out _ _ ?_ (fun hH => ?_)
                  · exact ⟨rc.lb, rc.tb⟩
                  clear hK K
                  rename World => Wc
                  refine tkH ?_ 5 hH ?_ ?_; rotate_left
                  · intro W' hS; go_simp; with_reducible rfl
                  simp only [tkr]
                  refine tkH ?_ 6 hH ?_ ?_; rotate_left
                  · intro W' hS; go_simp; with_reducible rfl
                  simp only [tkr]
                  refine tkH ?_ 7 hH ?_ ?_; rotate_left
                  · intro W' hS; go_simp; with_reducible rfl
                  simp only [tkr]
                  refine rdH 9 rfl (fun K hK => ?_)
                  obtain ⟨m0, m1, g0, g1⟩ := aN.all
                  go_simp
                  clear m0 m1 g0 g1
                  have kz : Kp (fun q => q = zn) Wc ((Wc.setCell ⟨zn, 0, none⟩ (.int .i64 N')).setCell ⟨zn, 1, none⟩ (.int .i64 n')) := ((Kp.refl (fun q => q = zn) Wc).setCell (.inl rfl) _).setCell (.inl rfl) _
                  replace rc := rc.store kz hnt
                  replace aN := (aN.set0 (.int .i64 N')).set1 (.int .i64 n')
                  replace a13 := a13.kp kz hn0
                  refine hK.out _ _ ?_ (fun hH => ?_)
                  · exact ⟨rc.lb, rc.tb⟩
                  clear hK K kz
                  refine tkH ?_ 10 hH ?_ ?_; rotate_left
                  · intro W' hS; go_simp; with_reducible rfl
                  simp only [tkr]
                  refine wpAnyH_done (by kernel_rfl) ?_ _
                  refine NoPanic.normal ?_
                  clear l0 l1 t0 t1
                  go_wp2_with fail
                  go_meet
                  exact ⟨zn, N', n', er', rfl, rfl, rc, aN, a13⟩
              · go_simp
                have aN := C2.new Wc 72 (.int .i64 0) (.int .i64 0)
                have hbd : Below Wc.heap.size Wc (Wc.alloc (.cells #[.int .i64 0, .int .i64 0] 72)) := (Below.refl _ Wc).alloc (Nat.le_refl _) _
                have hn0 : zl ≠ Wc.heap.size := fun e => by have := a13.lt; omega
                replace a13 := a13.below hbd
                first
                | have hnl := rm.tb.lt
                  have hnt : zt ≠ Wc.heap.size := fun e => by omega
                  have oN := rm.ls.fresh11
                  replace rm := rm.below hbd
                | have hnl := rc.tb.lt
                  have hnt : zt ≠ Wc.heap.size := fun e => by omega
                  have oN := True.intro
                  replace rc := rc.alloc (.cells #[.int .i64 0, .int .i64 0] 72)
                clear hbd hnl
                refine hK.out _ _ ?_ (fun hH => ?_)
                · first
                  | exact ⟨rm.ls.lb, rm.tb⟩
                  | exact ⟨rc.lb, rc.tb⟩
                clear hK K
                generalize hWn : World.alloc _ _ = Wn at *
                generalize hzn : Wc.heap.size = zn at *
                clear hWn hzn
                rename World => Wc
                refine rdH 2 rfl (fun K hK => ?_)
                go_simp
                refine (ltextx ⟨#[120]⟩ Wc).mono ?_
                rintro x Wd ⟨rfl, hbd⟩
                replace rm := rm.below hbd
                replace a13 := a13.below hbd
                try replace aN := aN.below hbd
                clear hbd
                simp only
                refine hK.out _ _ ?_ (fun hH => ?_)
                · exact ⟨rm.ls.lb, rm.tb⟩
                clear hK K
                rename World => Wc
                refine rdH 4 rfl (fun K hK => ?_)
                go_simp
                first
                | have oM : Own11 w F1 z1 bh zn := oN
                  have hzs : ∀ z ∈ [zn, zl], Own11 w F1 z1 bh z ∧ z < Wc.heap.size := by
                    intro z hz
                    simp only [List.mem_cons, List.not_mem_nil, or_false] at hz
                    rcases hz with rfl | rfl
                    · exact ⟨oN, aN.lt⟩
                    · exact ⟨oz13, a13.lt⟩
                  refine (rputx rm hP5 hl200 (3, 0, ⟨#[120]⟩) noV okx [zn, zl] hzs).mono ?_
                  clear hzs oM
                | have hzs : ∀ z ∈ [zl], Own11 w F1 z1 bh z ∧ z < Wc.heap.size := by
                    intro z hz
                    simp only [List.mem_cons, List.not_mem_nil, or_false] at hz
                    rcases hz with rfl
                    · exact ⟨oz13, a13.lt⟩
                  refine (rputx rm hP5 hl200 (3, 0, ⟨#[120]⟩) noV okx [zl] hzs).mono ?_
                  clear hzs
                rintro x Wd ⟨N', n', er', rfl, rc, hkp⟩
                replace a13 := a13.kp hkp oz13.not
                try replace aN := aN.kp hkp oN.not
                clear hkp rm
                simp only
                refine hK.out _ _ ?_ (fun hH => ?_)
                · exact ⟨rc.lb, rc.tb⟩
                clear hK K
                rename World => Wc
                refine tkH ?_ 5 hH ?_ ?_; rotate_left
                · intro W' hS; go_simp; with_reducible rfl
                simp only [tkr]
                refine tkH ?_ 6 hH ?_ ?_; rotate_left
                · intro W' hS; go_simp; with_reducible rfl
                simp only [tkr]
                refine tkH ?_ 7 hH ?_ ?_; rotate_left
                · intro W' hS; go_simp; with_reducible rfl
                simp only [tkr]
                refine rdH 9 rfl (fun K hK => ?_)
                obtain ⟨m0, m1, g0, g1⟩ := aN.all
                go_simp
                clear m0 m1 g0 g1
                have kz : Kp (fun q => q = zn) Wc ((Wc.setCell ⟨zn, 0, none⟩ (.int .i64 N')).setCell ⟨zn, 1, none⟩ (.int .i64 n')) := ((Kp.refl (fun q => q = zn) Wc).setCell (.inl rfl) _).setCell (.inl rfl) _
                replace rc := rc.store kz hnt
                replace aN := (aN.set0 (.int .i64 N')).set1 (.int .i64 n')
                replace a13 := a13.kp kz hn0
                refine hK.out _ _ ?_ (fun hH => ?_)
                · exact ⟨rc.lb, rc.tb⟩
                clear hK K kz
                refine tkH ?_ 10 hH ?_ ?_; rotate_left
                · intro W' hS; go_simp; with_reducible rfl
                simp only [tkr]
                refine wpAnyH_done (by kernel_rfl) ?_ _
                refine NoPanic.normal ?_
                clear l0 l1 t0 t1
                go_wp2_with fail
                go_meet
                exact ⟨zn, N', n', er', rfl, rfl, rc, aN, a13⟩
            case rest =>
              obtain ⟨zu, N1, n1, er, rfl, rfl, rc, aU, aL⟩ := hcut
              rename World => wd0
              have RCH := Lib.hid rc
              have aV := True.intro
              have aX := True.intro
              clear rc rm a13 oz13
              go_upto_if 88 with fail
              go_cut [16, 17, 18, 19] from 89 to 120 (fun _ _ _ _ wd => ∃ M3 F3, Rm w wd b bh seed z1 zt l nn P M3 F3 ∧ live (4096 + 1) M3 = lv ∧ C2 wd zu 72 (.int .i64 N1) (.int .i64 n1) ∧ C1 wd zl 3 (.int .i64 (4096 - (lv : Int))) ∧ (Own11 w F3 z1 bh zu ∧ Own11 w F3 z1 bh zl) ∧ (er = 0 ∨ er = 5 ∧ N1 = 0 ∧ n1 = 0 ∧ 4096 - (lv : Int) < (l.length : Int) + 3))
              case first =>
                rcases RCH.out with ⟨rfl, rfl, m, M', F', rfl, ls2, tb2, oz2, ⟨bk2, tt2, tl2, ks2⟩, hzz⟩ | ⟨rfl, rfl, rfl, h5, rm5, hzz⟩
                · have LQ := Lib.hid ls2
                  have BQ := Lib.hid (And.intro bk2 (And.intro tt2 (And.intro tl2 (And.intro ks2 (And.intro oz2 hzz)))))
                  have aT := tb2
                  have HH1 := Lib.hid (rhasx l RM.out.tt.srt)
                  have HH2 := Lib.hid (rnox HK.out)
                  have hLn : (((putL h0 ((3, 0, ⟨#[120]⟩), noV) l).length : Nat) : Int) = (l.length : Int) + 1 := rlenx HK.out RM.out.tt.srt
                  have hl200 : l.length ≤ 200 := by have := HK.out.len; have := HKK.out.2.1; omega
                  have hlp : 1 ≤ l.length ∨ True := .inr trivial
                  have HLN := Lib.hid hLn
                  clear hLn hlp hl200 ls2 tb2 bk2 tt2 tl2 ks2 oz2 hzz RCH
                  go_upto_region 21 with fail
                  go_cut [16, 17] from 89 to 95 (fun _ s17 wx => s17 = .bool true ∧ Below wd0.heap.size wd0 wx)
                  case first =>
                    have l0 : ∀ W', Below wd0.heap.size wd0 W' → W'.cell? ⟨z1, 0, none⟩ = some (ap b) := fun W' h => (LQ.out.lb.below h).c0
                    have l1 : ∀ W', Below wd0.heap.size wd0 W' → W'.cell? ⟨z1, 1, none⟩ = some (.pointer (some ⟨bh, 0, none⟩)) := fun W' h => (LQ.out.lb.below h).c1
                    have t0 : ∀ W', Below wd0.heap.size wd0 W' → W'.cell? ⟨zu, 0, none⟩ = some (.int .i64 ((putL h0 ((3, 0, ⟨#[120]⟩), noV) l).length : Nat)) := fun W' h => (aU.below h).c0
                    have t1 : ∀ W', Below wd0.heap.size wd0 W' → W'.cell? ⟨zu, 1, none⟩ = some (.int .i64 (m : Nat)) := fun W' h => (aU.below h).c1
                    clear aT aU aV aL aX
                    refine wp_region_noPanic ?_
                    have st : Below wd0.heap.size wd0 wd0.drew := (Below.refl _ wd0).drew
                    refine wp_region_held_drew (S := fun W' => Below wd0.heap.size wd0 W') (by kernel_rfl) st (fun hH => ?_)
                    generalize wd0.drew = Wc at st hH ⊢
                    refine tkH ?_ 0 hH ?_ ?_; rotate_left
                    · intro W' hS; go_simp; with_reducible rfl
                    simp only [tkr]
                    refine tkH ?_ 1 hH ?_ ?_; rotate_left
                    · intro W' hS; go_simp; with_reducible rfl
                    simp only [tkr]
                    refine wpAnyH_ready (rs := [2, 7]) (by kernel_rfl) (by simp) ?_
                    refine AllReadyH.cons rfl (fun K hK => ?_) (AllReadyH.cons rfl (fun K hK => ?_) (AllReadyH.nil))
                    · go_simp
                      refine (ltextx ⟨#[120]⟩ Wc).mono ?_
                      rintro x Wc ⟨rfl, hb9⟩
                      replace st := st.trans (hb9.mono st.size)
                      try replace bx := bx.below hb9
                      clear hb9
                      simp only
                      refine hK.out _ _ ?_ (fun hH => ?_)
                      · exact st
                      clear hK K
                      refine wpAnyH_ready (rs := [3, 7]) (by kernel_rfl) (by simp) ?_
                      refine AllReadyH.cons rfl (fun K hK => ?_) (AllReadyH.cons rfl (fun K hK => ?_) (AllReadyH.nil))
                      · go_simp
                        refine (tLook ((putL h0 ((3, 0, ⟨#[120]⟩), noV) l).length) m (3, 0, ⟨#[120]⟩) Wc (LQ.out.ar.below st) BQ.out.1.zero BQ.out.2.1).mono ?_
                        rintro x Wc ⟨rfl, hb9⟩
                        rw [HH1.out]
                        replace st := st.trans (hb9.mono st.size)
                        try replace bx := bx.below hb9
                        clear hb9
                        simp only
                        refine hK.out _ _ ?_ (fun hH => ?_)
                        · exact st
                        clear hK K
                        refine tkH ?_ 4 hH ?_ ?_; rotate_left
                        · intro W' hS; go_simp; with_reducible rfl
                        simp only [tkr]
                        refine tkH ?_ 5 hH ?_ ?_; rotate_left
                        · intro W' hS; go_simp; with_reducible rfl
                        simp only [tkr]
                        refine tkH ?_ 6 hH ?_ ?_; rotate_left
                        · intro W' hS; go_simp; with_reducible rfl
                        simp only [tkr]
                        refine rdH 7 rfl (fun K hK => ?_)
                        go_simp
                        have bx := C3.new Wc 36 (.int .u8 0) (.int .i64 0) (.string ⟨#[]⟩)
                        have bz : wd0.heap.size ≤ Wc.heap.size := st.size
                        replace st := st.alloc st.size (.cells #[.int .u8 0, .int .i64 0, .string ⟨#[]⟩] 36)
                        refine hK.out _ _ ?_ (fun hH => ?_)
                        · exact st
                        clear hK K
                        generalize World.alloc _ _ = Wn at st bx hH ⊢
                        generalize Wc.heap.size = zx at bx bz ⊢
                        rename World => Wc
                        refine rdH 8 rfl (fun K hK => ?_)
                        obtain ⟨a0, a1, a2, g0, g1, g2⟩ := bx.all
                        go_simp
                        clear a0 a1 a2 g0 g1 g2
                        replace st := ((st.setCell (p := ⟨zx, 0, none⟩) bz (.int .u8 (lookV (3, 0, ⟨#[120]⟩) (putL h0 ((3, 0, ⟨#[120]⟩), noV) l)).1)).setCell (p := ⟨zx, 1, none⟩) bz (.int .i64 (lookV (3, 0, ⟨#[120]⟩) (putL h0 ((3, 0, ⟨#[120]⟩), noV) l)).2.1)).setCell (p := ⟨zx, 2, none⟩) bz (.string (lookV (3, 0, ⟨#[120]⟩) (putL h0 ((3, 0, ⟨#[120]⟩), noV) l)).2.2)
                        refine hK.out _ _ ?_ (fun hH => ?_)
                        · exact st
                        clear hK K
                        refine tkH ?_ 9 hH ?_ ?_; rotate_left
                        · intro W' hS; go_simp; with_reducible rfl
                        simp only [tkr]
                        refine wpAnyH_done (by kernel_rfl) ?_ _
                        refine NoPanic.normal ?_
                        clear l0 l1 t0 t1
                        go_wp2_with fail
                        go_meet
                        exact ⟨rfl, st⟩
                      · go_simp
                        have bx := C3.new Wc 36 (.int .u8 0) (.int .i64 0) (.string ⟨#[]⟩)
                        have bz : wd0.heap.size ≤ Wc.heap.size := st.size
                        replace st := st.alloc st.size (.cells #[.int .u8 0, .int .i64 0, .string ⟨#[]⟩] 36)
                        refine hK.out _ _ ?_ (fun hH => ?_)
                        · exact st
                        clear hK K
                        generalize World.alloc _ _ = Wn at st bx hH ⊢
                        generalize Wc.heap.size = zx at bx bz ⊢
                        rename World => Wc
                        refine rdH 3 rfl (fun K hK => ?_)
                        go_simp
                        refine (tLook ((putL h0 ((3, 0, ⟨#[120]⟩), noV) l).length) m (3, 0, ⟨#[120]⟩) Wc (LQ.out.ar.below st) BQ.out.1.zero BQ.out.2.1).mono ?_
                        rintro x Wc ⟨rfl, hb9⟩
                        rw [HH1.out]
                        replace st := st.trans (hb9.mono st.size)
                        try replace bx := bx.below hb9
                        clear hb9
                        simp only
                        refine hK.out _ _ ?_ (fun hH => ?_)
                        · exact st
                        clear hK K
                        refine tkH ?_ 4 hH ?_ ?_; rotate_left
                        · intro W' hS; go_simp; with_reducible rfl
                        simp only [tkr]
                        refine tkH ?_ 5 hH ?_ ?_; rotate_left
                        · intro W' hS; go_simp; with_reducible rfl
                        simp only [tkr]
                        refine tkH ?_ 6 hH ?_ ?_; rotate_left
                        · intro W' hS; go_simp; with_reducible rfl
                        simp only [tkr]
                        refine rdH 8 rfl (fun K hK => ?_)
                        obtain ⟨a0, a1, a2, g0, g1, g2⟩ := bx.all
                        go_simp
                        clear a0 a1 a2 g0 g1 g2
                        replace st := ((st.setCell (p := ⟨zx, 0, none⟩) bz (.int .u8 (lookV (3, 0, ⟨#[120]⟩) (putL h0 ((3, 0, ⟨#[120]⟩), noV) l)).1)).setCell (p := ⟨zx, 1, none⟩) bz (.int .i64 (lookV (3, 0, ⟨#[120]⟩) (putL h0 ((3, 0, ⟨#[120]⟩), noV) l)).2.1)).setCell (p := ⟨zx, 2, none⟩) bz (.string (lookV (3, 0, ⟨#[120]⟩) (putL h0 ((3, 0, ⟨#[120]⟩), noV) l)).2.2)
                        refine hK.out _ _ ?_ (fun hH => ?_)
                        · exact st
                        clear hK K
                        refine tkH ?_ 9 hH ?_ ?_; rotate_left
                        · intro W' hS; go_simp; with_reducible rfl
                        simp only [tkr]
                        refine wpAnyH_done (by kernel_rfl) ?_ _
                        refine NoPanic.normal ?_
                        clear l0 l1 t0 t1
                        go_wp2_with fail
                        go_meet
                        exact ⟨rfl, st⟩
                    · go_simp
                      have bx := C3.new Wc 36 (.int .u8 0) (.int .i64 0) (.string ⟨#[]⟩)
                      have bz : wd0.heap.size ≤ Wc.heap.size := st.size
                      replace st := st.alloc st.size (.cells #[.int .u8 0, .int .i64 0, .string ⟨#[]⟩] 36)
                      refine hK.out _ _ ?_ (fun hH => ?_)
                      · exact st
                      clear hK K
                      generalize World.alloc _ _ = Wn at st bx hH ⊢
                      generalize Wc.heap.size = zx at bx bz ⊢
                      rename World => Wc
                      refine rdH 2 rfl (fun K hK => ?_)
                      go_simp
                      refine (ltextx ⟨#[120]⟩ Wc).mono ?_
                      rintro x Wc ⟨rfl, hb9⟩
                      replace st := st.trans (hb9.mono st.size)
                      try replace bx := bx.below hb9
                      clear hb9
                      simp only
                      refine hK.out _ _ ?_ (fun hH => ?_)
                      · exact st
                      clear hK K
                      refine rdH 3 rfl (fun K hK => ?_)
                      go_simp
                      refine (tLook ((putL h0 ((3, 0, ⟨#[120]⟩), noV) l).length) m (3, 0, ⟨#[120]⟩) Wc (LQ.out.ar.below st) BQ.out.1.zero BQ.out.2.1).mono ?_
                      rintro x Wc ⟨rfl, hb9⟩
                      rw [HH1.out]
                      replace st := st.trans (hb9.mono st.size)
                      try replace bx := bx.below hb9
                      clear hb9
                      simp only
                      refine hK.out _ _ ?_ (fun hH => ?_)
                      · exact st
                      clear hK K
                      refine tkH ?_ 4 hH ?_ ?_; rotate_left
                      · intro W' hS; go_simp; with_reducible rfl
                      simp only [tkr]
                      refine tkH ?_ 5 hH ?_ ?_; rotate_left
                      · intro W' hS; go_simp; with_reducible rfl
                      simp only [tkr]
                      refine tkH ?_ 6 hH ?_ ?_; rotate_left
                      · intro W' hS; go_simp; with_reducible rfl
                      simp only [tkr]
                      refine rdH 8 rfl (fun K hK => ?_)
                      obtain ⟨a0, a1, a2, g0, g1, g2⟩ := bx.all
                      go_simp
                      clear a0 a1 a2 g0 g1 g2
                      replace st := ((st.setCell (p := ⟨zx, 0, none⟩) bz (.int .u8 (lookV (3, 0, ⟨#[120]⟩) (putL h0 ((3, 0, ⟨#[120]⟩), noV) l)).1)).setCell (p := ⟨zx, 1, none⟩) bz (.int .i64 (lookV (3, 0, ⟨#[120]⟩) (putL h0 ((3, 0, ⟨#[120]⟩), noV) l)).2.1)).setCell (p := ⟨zx, 2, none⟩) bz (.string (lookV (3, 0, ⟨#[120]⟩) (putL h0 ((3, 0, ⟨#[120]⟩), noV) l)).2.2)
                      refine hK.out _ _ ?_ (fun hH => ?_)
                      · exact st
                      clear hK K
                      refine tkH ?_ 9 hH ?_ ?_; rotate_left
                      · intro W' hS; go_simp; with_reducible rfl
                      simp only [tkr]
                      refine wpAnyH_done (by kernel_rfl) ?_ _
                      refine NoPanic.normal ?_
                      clear l0 l1 t0 t1
                      go_wp2_with fail
                      go_meet
                      exact ⟨rfl, st⟩
                  case rest =>
                    obtain ⟨rfl, hb9⟩ := hcut
                    rename World => we
                    replace LQ := Lib.hid (LQ.out.below hb9)
                    replace aT := aT.below hb9
                    replace aU := aU.below hb9
                    replace aL := aL.below hb9
                    clear hb9
                    go_upto_region 22 with fail
                    go_cut [18, 19] from 96 to 102 (fun _ s19 wx => s19 = .bool false ∧ Below we.heap.size we wx)
                    case first =>
                      have l0 : ∀ W', Below we.heap.size we W' → W'.cell? ⟨z1, 0, none⟩ = some (ap b) := fun W' h => (LQ.out.lb.below h).c0
                      have l1 : ∀ W', Below we.heap.size we W' → W'.cell? ⟨z1, 1, none⟩ = some (.pointer (some ⟨bh, 0, none⟩)) := fun W' h => (LQ.out.lb.below h).c1
                      have t0 : ∀ W', Below we.heap.size we W' → W'.cell? ⟨zt, 0, none⟩ = some (.int .i64 (l.length : Nat)) := fun W' h => (aT.below h).c0
                      have t1 : ∀ W', Below we.heap.size we W' → W'.cell? ⟨zt, 1, none⟩ = some (.int .i64 (nn : Nat)) := fun W' h => (aT.below h).c1
                      clear aT aU aV aL aX
                      refine wp_region_noPanic ?_
                      have st : Below we.heap.size we we.drew := (Below.refl _ we).drew
                      refine wp_region_held_drew (S := fun W' => Below we.heap.size we W') (by kernel_rfl) st (fun hH => ?_)
                      generalize we.drew = Wc at st hH ⊢
                      refine tkH ?_ 0 hH ?_ ?_; rotate_left
                      · intro W' hS; go_simp; with_reducible rfl
                      simp only [tkr]
                      refine tkH ?_ 1 hH ?_ ?_; rotate_left
                      · intro W' hS; go_simp; with_reducible rfl
                      simp only [tkr]
                      refine wpAnyH_ready (rs := [2, 7]) (by kernel_rfl) (by simp) ?_
                      refine AllReadyH.cons rfl (fun K hK => ?_) (AllReadyH.cons rfl (fun K hK => ?_) (AllReadyH.nil))
                      · go_simp
                        refine (ltextx ⟨#[120]⟩ Wc).mono ?_
                        rintro x Wc ⟨rfl, hb9⟩
                        replace st := st.trans (hb9.mono st.size)
                        try replace bx := bx.below hb9
                        clear hb9
                        simp only
                        refine hK.out _ _ ?_ (fun hH => ?_)
                        · exact st
                        clear hK K
                        refine wpAnyH_ready (rs := [3, 7]) (by kernel_rfl) (by simp) ?_
                        refine AllReadyH.cons rfl (fun K hK => ?_) (AllReadyH.cons rfl (fun K hK => ?_) (AllReadyH.nil))
                        · go_simp
                          refine (tLook (l.length) nn (3, 0, ⟨#[120]⟩) Wc (LQ.out.ar.below st) BQ.out.1.zero BQ.out.2.2.1).mono ?_
                          rintro x Wc ⟨rfl, hb9⟩
                          rw [HH2.out]
                          replace st := st.trans (hb9.mono st.size)
                          try replace bx := bx.below hb9
                          clear hb9
                          simp only
                          refine hK.out _ _ ?_ (fun hH => ?_)
                          · exact st
                          clear hK K
                          refine tkH ?_ 4 hH ?_ ?_; rotate_left
                          · intro W' hS; go_simp; with_reducible rfl
                          simp only [tkr]
                          refine tkH ?_ 5 hH ?_ ?_; rotate_left
                          · intro W' hS; go_simp; with_reducible rfl
                          simp only [tkr]
                          refine tkH ?_ 6 hH ?_ ?_; rotate_left
                          · intro W' hS; go_simp; with_reducible rfl
                          simp only [tkr]
                          refine rdH 7 rfl (fun K hK => ?_)
                          go_simp
                          have bx := C3.new Wc 36 (.int .u8 0) (.int .i64 0) (.string ⟨#[]⟩)
                          have bz : we.heap.size ≤ Wc.heap.size := st.size
                          replace st := st.alloc st.size (.cells #[.int .u8 0, .int .i64 0, .string ⟨#[]⟩] 36)
                          refine hK.out _ _ ?_ (fun hH => ?_)
                          · exact st
                          clear hK K
                          generalize World.alloc _ _ = Wn at st bx hH ⊢
                          generalize Wc.heap.size = zx at bx bz ⊢
                          rename World => Wc
                          refine rdH 8 rfl (fun K hK => ?_)
                          obtain ⟨a0, a1, a2, g0, g1, g2⟩ := bx.all
                          go_simp
                          clear a0 a1 a2 g0 g1 g2
                          replace st := ((st.setCell (p := ⟨zx, 0, none⟩) bz (.int .u8 (lookV (3, 0, ⟨#[120]⟩) (l)).1)).setCell (p := ⟨zx, 1, none⟩) bz (.int .i64 (lookV (3, 0, ⟨#[120]⟩) (l)).2.1)).setCell (p := ⟨zx, 2, none⟩) bz (.string (lookV (3, 0, ⟨#[120]⟩) (l)).2.2)
                          refine hK.out _ _ ?_ (fun hH => ?_)
                          · exact st
                          clear hK K
                          refine tkH ?_ 9 hH ?_ ?_; rotate_left
                          · intro W' hS; go_simp; with_reducible rfl
                          simp only [tkr]
                          refine wpAnyH_done (by kernel_rfl) ?_ _
                          refine NoPanic.normal ?_
                          clear l0 l1 t0 t1
                          go_wp2_with fail
                          go_meet
                          exact ⟨rfl, st⟩
                        · go_simp
                          have bx := C3.new Wc 36 (.int .u8 0) (.int .i64 0) (.string ⟨#[]⟩)
                          have bz : we.heap.size ≤ Wc.heap.size := st.size
                          replace st := st.alloc st.size (.cells #[.int .u8 0, .int .i64 0, .string ⟨#[]⟩] 36)
                          refine hK.out _ _ ?_ (fun hH => ?_)
                          · exact st
                          clear hK K
                          generalize World.alloc _ _ = Wn at st bx hH ⊢
                          generalize Wc.heap.size = zx at bx bz ⊢
                          rename World => Wc
                          refine rdH 3 rfl (fun K hK => ?_)
                          go_simp
                          refine (tLook (l.length) nn (3, 0, ⟨#[120]⟩) Wc (LQ.out.ar.below st) BQ.out.1.zero BQ.out.2.2.1).mono ?_
                          rintro x Wc ⟨rfl, hb9⟩
                          rw [HH2.out]
                          replace st := st.trans (hb9.mono st.size)
                          try replace bx := bx.below hb9
                          clear hb9
                          simp only
                          refine hK.out _ _ ?_ (fun hH => ?_)
                          · exact st
                          clear hK K
                          refine tkH ?_ 4 hH ?_ ?_; rotate_left
                          · intro W' hS; go_simp; with_reducible rfl
                          simp only [tkr]
                          refine tkH ?_ 5 hH ?_ ?_; rotate_left
                          · intro W' hS; go_simp; with_reducible rfl
                          simp only [tkr]
                          refine tkH ?_ 6 hH ?_ ?_; rotate_left
                          · intro W' hS; go_simp; with_reducible rfl
                          simp only [tkr]
                          refine rdH 8 rfl (fun K hK => ?_)
                          obtain ⟨a0, a1, a2, g0, g1, g2⟩ := bx.all
                          go_simp
                          clear a0 a1 a2 g0 g1 g2
                          replace st := ((st.setCell (p := ⟨zx, 0, none⟩) bz (.int .u8 (lookV (3, 0, ⟨#[120]⟩) (l)).1)).setCell (p := ⟨zx, 1, none⟩) bz (.int .i64 (lookV (3, 0, ⟨#[120]⟩) (l)).2.1)).setCell (p := ⟨zx, 2, none⟩) bz (.string (lookV (3, 0, ⟨#[120]⟩) (l)).2.2)
                          refine hK.out _ _ ?_ (fun hH => ?_)
                          · exact st
                          clear hK K
                          refine tkH ?_ 9 hH ?_ ?_; rotate_left
                          · intro W' hS; go_simp; with_reducible rfl
                          simp only [tkr]
                          refine wpAnyH_done (by kernel_rfl) ?_ _
                          refine NoPanic.normal ?_
                          clear l0 l1 t0 t1
                          go_wp2_with fail
                          go_meet
                          exact ⟨rfl, st⟩
                      · go_simp
                        have bx := C3.new Wc 36 (.int .u8 0) (.int .i64 0) (.string ⟨#[]⟩)
                        have bz : we.heap.size ≤ Wc.heap.size := st.size
                        replace st := st.alloc st.size (.cells #[.int .u8 0, .int .i64 0, .string ⟨#[]⟩] 36)
                        refine hK.out _ _ ?_ (fun hH => ?_)
                        · exact st
                        clear hK K
                        generalize World.alloc _ _ = Wn at st bx hH ⊢
                        generalize Wc.heap.size = zx at bx bz ⊢
                        rename World => Wc
                        refine rdH 2 rfl (fun K hK => ?_)
                        go_simp
                        refine (ltextx ⟨#[120]⟩ Wc).mono ?_
                        rintro x Wc ⟨rfl, hb9⟩
                        replace st := st.trans (hb9.mono st.size)
                        try replace bx := bx.below hb9
                        clear hb9
                        simp only
                        refine hK.out _ _ ?_ (fun hH => ?_)
                        · exact st
                        clear hK K
                        refine rdH 3 rfl (fun K hK => ?_)
                        go_simp
                        refine (tLook (l.length) nn (3, 0, ⟨#[120]⟩) Wc (LQ.out.ar.below st) BQ.out.1.zero BQ.out.2.2.1).mono ?_
                        rintro x Wc ⟨rfl, hb9⟩
                        rw [HH2.out]
                        replace st := st.trans (hb9.mono st.size)
                        try replace bx := bx.below hb9
                        clear hb9
                        simp only
                        refine hK.out _ _ ?_ (fun hH => ?_)
                        · exact st
                        clear hK K
                        refine tkH ?_ 4 hH ?_ ?_; rotate_left
                        · intro W' hS; go_simp; with_reducible rfl
                        simp only [tkr]
                        refine tkH ?_ 5 hH ?_ ?_; rotate_left
                        · intro W' hS; go_simp; with_reducible rfl
                        simp only [tkr]
                        refine tkH ?_ 6 hH ?_ ?_; rotate_left
                        · intro W' hS; go_simp; with_reducible rfl
                        simp only [tkr]
                        refine rdH 8 rfl (fun K hK => ?_)
                        obtain ⟨a0, a1, a2, g0, g1, g2⟩ := bx.all
                        go_simp
                        clear a0 a1 a2 g0 g1 g2
                        replace st := ((st.setCell (p := ⟨zx, 0, none⟩) bz (.int .u8 (lookV (3, 0, ⟨#[120]⟩) (l)).1)).setCell (p := ⟨zx, 1, none⟩) bz (.int .i64 (lookV (3, 0, ⟨#[120]⟩) (l)).2.1)).setCell (p := ⟨zx, 2, none⟩) bz (.string (lookV (3, 0, ⟨#[120]⟩) (l)).2.2)
                        refine hK.out _ _ ?_ (fun hH => ?_)
                        · exact st
                        clear hK K
                        refine tkH ?_ 9 hH ?_ ?_; rotate_left
                        · intro W' hS; go_simp; with_reducible rfl
                        simp only [tkr]
                        refine wpAnyH_done (by kernel_rfl) ?_ _
                        refine NoPanic.normal ?_
                        clear l0 l1 t0 t1
                        go_wp2_with fail
                        go_meet
                        exact ⟨rfl, st⟩
                    case rest =>
                      obtain ⟨rfl, hb9⟩ := hcut
                      rename World => wg
                      replace LQ := Lib.hid (LQ.out.below hb9)
                      replace aT := aT.below hb9
                      replace aU := aU.below hb9
                      replace aL := aL.below hb9
                      clear hb9
                      have AU := Lib.hid aU
                      rw [HLN.out] at aU
                      have hw1 : IntKind.i64.wrap ((l.length : Int) + 1) = (l.length : Int) + 1 := IntWalk.i64_in _ (by have := HK.out.len; have := HKK.out.2.1; omega)
                      have hw2 : wrap64 ((l.length : Int) + 1) = (l.length : Int) + 1 := IntWalk.wrap64_in _ (by have := HK.out.len; have := HKK.out.2.1; omega)
                      have x0 := LQ.out.lb.c0
                      obtain ⟨y0, y1⟩ := And.intro aU.c0 aU.c1
                      obtain ⟨v0, v1⟩ := And.intro aT.c0 aT.c1
                      have AA := Lib.hid (And.intro aT (And.intro aL (And.intro aV aX)))
                      clear aT aU aL aV aX
                      go_wp2_with fail
                      refine (rdrop RM.out (fun j => by have := HP.out j; omega) LQ.out AA.out.1 BQ.out.2.2.2.2.1 BQ.out.1 BQ.out.2.2.1 BQ.out.2.2.2.1).mono ?_
                      rintro x wh ⟨⟨zd, rfl⟩, M'', F'', rm6, hl6, hF6, hk6⟩
                      have hzz := BQ.out.2.2.2.2.2
                      have ow0 := hzz zu (by simp)
                      have aw0 := AU.out
                      have ok0 := Own11.keep (W := wg) ow0 aw0.lt hF6
                      replace aw0 := aw0.kp hk6 ow0.2.1
                      have ow1 := hzz zl (by simp)
                      have aw1 := AA.out.2.1
                      have ok1 := Own11.keep (W := wg) ow1 aw1.lt hF6
                      replace aw1 := aw1.kp hk6 ow1.2.1
                      clear x0 y0 y1 v0 v1 hw1 hw2
                      go_wp2_with fail
                      go_meet
                      exact ⟨M'', F'', rm6, by have := HLV.out; omega, aw0, aw1, ⟨ok0, ok1⟩, .inl (by trivial)⟩
                · go_wp2_with fail
                  go_meet
                  exact ⟨_, _, rm5, HLV.out.symm, aU, aL, ⟨hzz zu (by simp), hzz zl (by simp)⟩, .inr ⟨by trivial, by trivial, by trivial, by have := HLV.out; omega⟩⟩
              case rest =>
                obtain ⟨M3, F3, rm, hl3, aU, aL, ⟨ozu, ozl⟩, hg1⟩ := hcut
                rename World => wf
                have RM3 := Lib.hid rm
                have HLV3 := Lib.hid hl3.symm
                have HG1 := Lib.hid hg1
                clear hl3 hg1 RM RCH
                go_upto_region 26 with fail
                go_cut [20, 21] from 121 to 127 (fun s20 s21 wd => ∃ (zw : Nat) (N' n' er' : Int), s20 = .pointer (some ⟨zw, 0, none⟩) ∧ s21 = .int .i64 er' ∧ RC w wd b bh seed z1 zt l nn P M3 F3 (takeL (2, 0, ⟨#[]⟩) l) [zw, zu, zl] N' n' er' ∧ C2 wd zw 72 (.int .i64 N') (.int .i64 n') ∧ C2 wd zu 72 (.int .i64 N1) (.int .i64 n1) ∧ C1 wd zl 3 (.int .i64 (4096 - (lv : Int))))
                case first =>
                  have l0 : ∀ W, (C2 W z1 26 (ap b) (.pointer (some ⟨bh, 0, none⟩)) ∧ C2 W zt 72 (.int .i64 (l.length : Nat)) (.int .i64 (nn : Nat))) → W.cell? ⟨z1, 0, none⟩ = some (ap b) := fun W h => h.1.c0
                  have l1 : ∀ W, (C2 W z1 26 (ap b) (.pointer (some ⟨bh, 0, none⟩)) ∧ C2 W zt 72 (.int .i64 (l.length : Nat)) (.int .i64 (nn : Nat))) → W.cell? ⟨z1, 1, none⟩ = some (.pointer (some ⟨bh, 0, none⟩)) := fun W h => h.1.c1
                  have t0 : ∀ W, (C2 W z1 26 (ap b) (.pointer (some ⟨bh, 0, none⟩)) ∧ C2 W zt 72 (.int .i64 (l.length : Nat)) (.int .i64 (nn : Nat))) → W.cell? ⟨zt, 0, none⟩ = some (.int .i64 (l.length : Nat)) := fun W h => h.2.c0
                  have t1 : ∀ W, (C2 W z1 26 (ap b) (.pointer (some ⟨bh, 0, none⟩)) ∧ C2 W zt 72 (.int .i64 (l.length : Nat)) (.int .i64 (nn : Nat))) → W.cell? ⟨zt, 1, none⟩ = some (.int .i64 (nn : Nat)) := fun W h => h.2.c1
                  have hl200 : l.length ≤ 200 := by have := HK.out.len; have := HKK.out.2.1; omega
                  have hP5 : ∀ j, P j ≤ 5000 := fun j => by have := HP.out j; omega
                  have hbd := (Below.refl wf.heap.size wf).drew
                  replace rm := rm.below hbd
                  replace aU := aU.below hbd
                  replace aL := aL.below hbd
                  clear hbd
                  refine wp_region_noPanic ?_
                  refine wp_region_held_drew (S := fun W => (C2 W z1 26 (ap b) (.pointer (some ⟨bh, 0, none⟩)) ∧ C2 W zt 72 (.int .i64 (l.length : Nat)) (.int .i64 (nn : Nat)))) (by kernel_rfl) ⟨rm.ls.lb, rm.tb⟩ (fun hH => ?_)
                  generalize wf.drew = Wc at rm aU aL hH ⊢
                  refine tkH ?_ 0 hH ?_ ?_; rotate_left
                  · intro W' hS; go_simp; with_reducible rfl
                  simp only [tkr]
                  refine tkH ?_ 1 hH ?_ ?_; rotate_left
                  · intro W' hS; go_simp; with_reducible rfl
                  simp only [tkr]
                  refine wpAnyH_ready (rs := [2, 7]) (by kernel_rfl) (by simp) ?_
                  refine AllReadyH.cons rfl (fun K hK => ?_) (AllReadyH.cons rfl (fun K hK => ?_) (AllReadyH.nil))
                  · go_simp
                    refine (lnumber 0 Wc).mono ?_
                    rintro x Wd ⟨rfl, hbd⟩
                    replace rm := rm.below hbd
                    replace aU := aU.below hbd
                    replace aL := aL.below hbd
                    try replace aN := aN.below hbd
                    clear hbd
                    simp only
                    refine hK.out _ _ ?_ (fun hH => ?_)
                    · exact ⟨rm.ls.lb, rm.tb⟩
                    clear hK K
                    rename World => Wc
                    refine wpAnyH_ready (rs := [3, 7]) (by kernel_rfl) (by simp) ?_
                    refine AllReadyH.cons rfl (fun K hK => ?_) (AllReadyH.cons rfl (fun K hK => ?_) (AllReadyH.nil))
                    · go_simp
                      first
                      | have oM : Own11 w F3 z1 bh zn := oN
                        have hzs : ∀ z ∈ [zn, zu, zl], Own11 w F3 z1 bh z ∧ z < Wc.heap.size := by
                          intro z hz
                          simp only [List.mem_cons, List.not_mem_nil, or_false] at hz
                          rcases hz with rfl | rfl | rfl
                          · exact ⟨oN, aN.lt⟩
                          · exact ⟨ozu, aU.lt⟩
                          · exact ⟨ozl, aL.lt⟩
                        refine (rtakex rm hP5 hl200 (2, 0, ⟨#[]⟩) (HK.out.zero HKK.out.1) [zn, zu, zl] hzs).mono ?_
                        clear hzs oM
                      | have hzs : ∀ z ∈ [zu, zl], Own11 w F3 z1 bh z ∧ z < Wc.heap.size := by
                          intro z hz
                          simp only [List.mem_cons, List.not_mem_nil, or_false] at hz
                          rcases hz with rfl | rfl
                          · exact ⟨ozu, aU.lt⟩
                          · exact ⟨ozl, aL.lt⟩
                        refine (rtakex rm hP5 hl200 (2, 0, ⟨#[]⟩) (HK.out.zero HKK.out.1) [zu, zl] hzs).mono ?_
                        clear hzs
                      rintro x Wd ⟨N', n', er', rfl, rc, hkp⟩
                      replace aU := aU.kp hkp ozu.not
                      replace aL := aL.kp hkp ozl.not
                      try replace aN := aN.kp hkp oN.not
                      clear hkp rm
                      simp only
                      refine hK.out _ _ ?_ (fun hH => ?_)
                      · exact ⟨rc.lb, rc.tb⟩
                      clear hK K
                      rename World => Wc
                      refine tkH ?_ 4 hH ?_ ?_; rotate_left
                      · intro W' hS; go_simp; with_reducible rfl
                      simp only [tkr]
                      refine tkH ?_ 5 hH ?_ ?_; rotate_left
                      · intro W' hS; go_simp; with_reducible rfl
                      simp only [tkr]
                      refine tkH ?_ 6 hH ?_ ?_; rotate_left
                      · intro W' hS; go_simp; with_reducible rfl
                      simp only [tkr]
                      refine rdH 7 rfl (fun K hK => ?_)
                      go_simp
                      have aN := C2.new Wc 72 (.int .i64 0) (.int .i64 0)
                      have hbd : Below Wc.heap.size Wc (Wc.alloc (.cells #[.int .i64 0, .int .i64 0] 72)) := (Below.refl _ Wc).alloc (Nat.le_refl _) _
                      have hn0 : zu ≠ Wc.heap.size := fun e => by have := aU.lt; omega
                      replace aU := aU.below hbd
                      have hn1 : zl ≠ Wc.heap.size := fun e => by have := aL.lt; omega
                      replace aL := aL.below hbd
                      first
                      | have hnl := rm.tb.lt
                        have hnt : zt ≠ Wc.heap.size := fun e => by omega
                        have oN := rm.ls.fresh11
                        replace rm := rm.below hbd
                      | have hnl := rc.tb.lt
                        have hnt : zt ≠ Wc.heap.size := fun e => by omega
                        have oN := True.intro
                        replace rc := rc.alloc (.cells #[.int .i64 0, .int .i64 0] 72)
                      clear hbd hnl
                      refine hK.out _ _ ?_ (fun hH => ?_)
                      · first
                        | exact ⟨rm.ls.lb, rm.tb⟩
                        | exact ⟨rc.lb, rc.tb⟩
                      clear hK K
                      generalize hWn : World.alloc _ _ = Wn at *
                      generalize hzn : Wc.heap.size = zn at *
                      clear hWn hzn
                      rename World => Wc
                      refine rdH 8 rfl (fun K hK => ?_)
                      obtain ⟨m0, m1, g0, g1⟩ := aN.all
                      go_simp
                      clear m0 m1 g0 g1
                      have kz : Kp (fun q => q = zn) Wc ((Wc.setCell ⟨zn, 0, none⟩ (.int .i64 N')).setCell ⟨zn, 1, none⟩ (.int .i64 n')) := ((Kp.refl (fun q => q = zn) Wc).setCell (.inl rfl) _).setCell (.inl rfl) _
                      replace rc := rc.store kz hnt
                      replace aN := (aN.set0 (.int .i64 N')).set1 (.int .i64 n')
                      replace aU := aU.kp kz hn0
                      replace aL := aL.kp kz hn1
                      refine hK.out _ _ ?_ (fun hH => ?_)
                      · exact ⟨rc.lb, rc.tb⟩
                      clear hK K kz
                      refine tkH ?_ 9 hH ?_ ?_; rotate_left
                      · intro W' hS; go_simp; with_reducible rfl
                      simp only [tkr]
                      refine wpAnyH_done (by kernel_rfl) ?_ _
                      refine NoPanic.normal ?_
                      clear l0 l1 t0 t1
                      go_wp2_with fail
                      go_meet
                      exact ⟨zn, N', n', er', rfl, rfl, rc, aN, aU, aL⟩
                    · go_simp
                      have aN := C2.new Wc 72 (.int .i64 0) (.int .i64 0)
                      have hbd : Below Wc.heap.size Wc (Wc.alloc (.cells #[.int .i64 0, .int .i64 0] 72)) := (Below.refl _ Wc).alloc (Nat.le_refl _) _
                      have hn0 : zu ≠ Wc.heap.size := fun e => by have := aU.lt; omega
                      replace aU := aU.below hbd
                      have hn1 : zl ≠ Wc.heap.size := fun e => by have := aL.lt; omega
                      replace aL := aL.below hbd
                      first
                      | have hnl := rm.tb.lt
                        have hnt : zt ≠ Wc.heap.size := fun e => by omega
                        have oN := rm.ls.fresh11
                        replace rm := rm.below hbd
                      | have hnl := rc.tb.lt
                        have hnt : zt ≠ Wc.heap.size := fun e => by omega
                        have oN := True.intro
                        replace rc := rc.alloc (.cells #[.int .i64 0, .int .i64 0] 72)
                      clear hbd hnl
                      refine hK.out _ _ ?_ (fun hH => ?_)
                      · first
                        | exact ⟨rm.ls.lb, rm.tb⟩
                        | exact ⟨rc.lb, rc.tb⟩
                      clear hK K
                      generalize hWn : World.alloc _ _ = Wn at *
                      generalize hzn : Wc.heap.size = zn at *
                      clear hWn hzn
                      rename World => Wc
                      refine rdH 3 rfl (fun K hK => ?_)
                      go_simp
                      first
                      | have oM : Own11 w F3 z1 bh zn := oN
                        have hzs : ∀ z ∈ [zn, zu, zl], Own11 w F3 z1 bh z ∧ z < Wc.heap.size := by
                          intro z hz
                          simp only [List.mem_cons, List.not_mem_nil, or_false] at hz
                          rcases hz with rfl | rfl | rfl
                          · exact ⟨oN, aN.lt⟩
                          · exact ⟨ozu, aU.lt⟩
                          · exact ⟨ozl, aL.lt⟩
                        refine (rtakex rm hP5 hl200 (2, 0, ⟨#[]⟩) (HK.out.zero HKK.out.1) [zn, zu, zl] hzs).mono ?_
                        clear hzs oM
                      | have hzs : ∀ z ∈ [zu, zl], Own11 w F3 z1 bh z ∧ z < Wc.heap.size := by
                          intro z hz
                          simp only [List.mem_cons, List.not_mem_nil, or_false] at hz
                          rcases hz with rfl | rfl
                          · exact ⟨ozu, aU.lt⟩
                          · exact ⟨ozl, aL.lt⟩
                        refine (rtakex rm hP5 hl200 (2, 0, ⟨#[]⟩) (HK.out.zero HKK.out.1) [zu, zl] hzs).mono ?_
                        clear hzs
                      rintro x Wd ⟨N', n', er', rfl, rc, hkp⟩
                      replace aU := aU.kp hkp ozu.not
                      replace aL := aL.kp hkp ozl.not
                      try replace aN := aN.kp hkp oN.not
                      clear hkp rm
                      simp only
                      refine hK.out _ _ ?_ (fun hH => ?_)
                      · exact ⟨rc.lb, rc.tb⟩
                      clear hK K
                      rename World => Wc
                      refine tkH ?_ 4 hH ?_ ?_; rotate_left
                      · intro W' hS; go_simp; with_reducible rfl
                      simp only [tkr]
                      refine tkH ?_ 5 hH ?_ ?_; rotate_left
                      · intro W' hS; go_simp; with_reducible rfl
                      simp only [tkr]
                      refine tkH ?_ 6 hH ?_ ?_; rotate_left
                      · intro W' hS; go_simp; with_reducible rfl
                      simp only [tkr]
                      refine rdH 8 rfl (fun K hK => ?_)
                      obtain ⟨m0, m1, g0, g1⟩ := aN.all
                      go_simp
                      clear m0 m1 g0 g1
                      have kz : Kp (fun q => q = zn) Wc ((Wc.setCell ⟨zn, 0, none⟩ (.int .i64 N')).setCell ⟨zn, 1, none⟩ (.int .i64 n')) := ((Kp.refl (fun q => q = zn) Wc).setCell (.inl rfl) _).setCell (.inl rfl) _
                      replace rc := rc.store kz hnt
                      replace aN := (aN.set0 (.int .i64 N')).set1 (.int .i64 n')
                      replace aU := aU.kp kz hn0
                      replace aL := aL.kp kz hn1
                      refine hK.out _ _ ?_ (fun hH => ?_)
                      · exact ⟨rc.lb, rc.tb⟩
                      clear hK K kz
                      refine tkH ?_ 9 hH ?_ ?_; rotate_left
                      · intro W' hS; go_simp; with_reducible rfl
                      simp only [tkr]
                      refine wpAnyH_done (by kernel_rfl) ?_ _
                      refine NoPanic.normal ?_
                      clear l0 l1 t0 t1
                      go_wp2_with fail
                      go_meet
                      exact ⟨zn, N', n', er', rfl, rfl, rc, aN, aU, aL⟩
                  · go_simp
                    have aN := C2.new Wc 72 (.int .i64 0) (.int .i64 0)
                    have hbd : Below Wc.heap.size Wc (Wc.alloc (.cells #[.int .i64 0, .int .i64 0] 72)) := (Below.refl _ Wc).alloc (Nat.le_refl _) _
                    have hn0 : zu ≠ Wc.heap.size := fun e => by have := aU.lt; omega
                    replace aU := aU.below hbd
                    have hn1 : zl ≠ Wc.heap.size := fun e => by have := aL.lt; omega
                    replace aL := aL.below hbd
                    first
                    | have hnl := rm.tb.lt
                      have hnt : zt ≠ Wc.heap.size := fun e => by omega
                      have oN := rm.ls.fresh11
                      replace rm := rm.below hbd
                    | have hnl := rc.tb.lt
                      have hnt : zt ≠ Wc.heap.size := fun e => by omega
                      have oN := True.intro
                      replace rc := rc.alloc (.cells #[.int .i64 0, .int .i64 0] 72)
                    clear hbd hnl
                    refine hK.out _ _ ?_ (fun hH => ?_)
                    · first
                      | exact ⟨rm.ls.lb, rm.tb⟩
                      | exact ⟨rc.lb, rc.tb⟩
                    clear hK K
                    generalize hWn : World.alloc _ _ = Wn at *
                    generalize hzn : Wc.heap.size = zn at *
                    clear hWn hzn
                    rename World => Wc
                    refine rdH 2 rfl (fun K hK => ?_)
                    go_simp
                    refine (lnumber 0 Wc).mono ?_
                    rintro x Wd ⟨rfl, hbd⟩
                    replace rm := rm.below hbd
                    replace aU := aU.below hbd
                    replace aL := aL.below hbd
                    try replace aN := aN.below hbd
                    clear hbd
                    simp only
                    refine hK.out _ _ ?_ (fun hH => ?_)
                    · exact ⟨rm.ls.lb, rm.tb⟩
                    clear hK K
                    rename World => Wc
                    refine rdH 3 rfl (fun K hK => ?_)
                    go_simp
                    first
                    | have oM : Own11 w F3 z1 bh zn := oN
                      have hzs : ∀ z ∈ [zn, zu, zl], Own11 w F3 z1 bh z ∧ z < Wc.heap.size := by
                        intro z hz
                        simp only [List.mem_cons, List.not_mem_nil, or_false] at hz
                        rcases hz with rfl | rfl | rfl
                        · exact ⟨oN, aN.lt⟩
                        · exact ⟨ozu, aU.lt⟩
                        · exact ⟨ozl, aL.lt⟩
                      refine (rtakex rm hP5 hl200 (2, 0, ⟨#[]⟩) (HK.out.zero HKK.out.1) [zn, zu, zl] hzs).mono ?_
                      clear hzs oM
                    | have hzs : ∀ z ∈ [zu, zl], Own11 w F3 z1 bh z ∧ z < Wc.heap.size := by
                        intro z hz
                        simp only [List.mem_cons, List.not_mem_nil, or_false] at hz
                        rcases hz with rfl | rfl
                        · exact ⟨ozu, aU.lt⟩
                        · exact ⟨ozl, aL.lt⟩
                      refine (rtakex rm hP5 hl200 (2, 0, ⟨#[]⟩) (HK.out.zero HKK.out.1) [zu, zl] hzs).mono ?_
                      clear hzs
                    rintro x Wd ⟨N', n', er', rfl, rc, hkp⟩
                    replace aU := aU.kp hkp ozu.not
                    replace aL := aL.kp hkp ozl.not
                    try replace aN := aN.kp hkp oN.not
                    clear hkp rm
                    simp only
                    refine hK.out _ _ ?_ (fun hH => ?_)
                    · exact ⟨rc.lb, rc.tb⟩
                    clear hK K
                    rename World => Wc
                    refine tkH ?_ 4 hH ?_ ?_; rotate_left
                    · intro W' hS; go_simp; with_reducible rfl
                    simp only [tkr]
                    refine tkH ?_ 5 hH ?_ ?_; rotate_left
                    · intro W' hS; go_simp; with_reducible rfl
                    simp only [tkr]
                    refine tkH ?_ 6 hH ?_ ?_; rotate_left
                    · intro W' hS; go_simp; with_reducible rfl
                    simp only [tkr]
                    refine rdH 8 rfl (fun K hK => ?_)
                    obtain ⟨m0, m1, g0, g1⟩ := aN.all
                    go_simp
                    clear m0 m1 g0 g1
                    have kz : Kp (fun q => q = zn) Wc ((Wc.setCell ⟨zn, 0, none⟩ (.int .i64 N')).setCell ⟨zn, 1, none⟩ (.int .i64 n')) := ((Kp.refl (fun q => q = zn) Wc).setCell (.inl rfl) _).setCell (.inl rfl) _
                    replace rc := rc.store kz hnt
                    replace aN := (aN.set0 (.int .i64 N')).set1 (.int .i64 n')
                    replace aU := aU.kp kz hn0
                    replace aL := aL.kp kz hn1
                    refine hK.out _ _ ?_ (fun hH => ?_)
                    · exact ⟨rc.lb, rc.tb⟩
                    clear hK K kz
                    refine tkH ?_ 9 hH ?_ ?_; rotate_left
                    · intro W' hS; go_simp; with_reducible rfl
                    simp only [tkr]
                    refine wpAnyH_done (by kernel_rfl) ?_ _
                    refine NoPanic.normal ?_
                    clear l0 l1 t0 t1
                    go_wp2_with fail
                    go_meet
                    exact ⟨zn, N', n', er', rfl, rfl, rc, aN, aU, aL⟩
                case rest =>
                  obtain ⟨zw, N2, n2, er2, rfl, rfl, rc, aU2, aV, aL⟩ := hcut
                  rename World => wd0
                  have RCH := Lib.hid rc
                  have aX := True.intro
                  clear rc rm ozu ozl aU
                  have aU := aU2
                  clear aU2
                  go_upto_if 129 with fail
                  go_cut [22, 23, 24, 25] from 130 to 161 (fun _ _ _ _ wd => ∃ M3 F3, Rm w wd b bh seed z1 zt l nn P M3 F3 ∧ live (4096 + 1) M3 = lv ∧ C2 wd zw 72 (.int .i64 N2) (.int .i64 n2) ∧ C2 wd zu 72 (.int .i64 N1) (.int .i64 n1) ∧ C1 wd zl 3 (.int .i64 (4096 - (lv : Int))) ∧ (Own11 w F3 z1 bh zw ∧ Own11 w F3 z1 bh zu ∧ Own11 w F3 z1 bh zl) ∧ (er2 = 0 ∨ er2 = 5 ∧ N2 = 0 ∧ n2 = 0 ∧ 4096 - (lv : Int) < (l.length : Int) + 3))
                  case first =>
                    rcases RCH.out with ⟨rfl, rfl, m, M', F', rfl, ls2, tb2, oz2, ⟨bk2, tt2, tl2, ks2⟩, hzz⟩ | ⟨rfl, rfl, rfl, h5, rm5, hzz⟩
                    · have LQ := Lib.hid ls2
                      have BQ := Lib.hid (And.intro bk2 (And.intro tt2 (And.intro tl2 (And.intro ks2 (And.intro oz2 hzz)))))
                      have aT := tb2
                      have HH1 := Lib.hid (rno0 l)
                      have HH2 := Lib.hid (HK.out.zero HKK.out.1)
                      have hLn : (((takeL (2, 0, ⟨#[]⟩) l).length : Nat) : Int) = (l.length : Int) - 1 := rlen0 HK.out RM3.out.tt.srt HKK.out.1
                      have hl200 : l.length ≤ 200 := by have := HK.out.len; have := HKK.out.2.1; omega
                      have hlp : 1 ≤ l.length ∨ True := .inr trivial
                      have HLN := Lib.hid hLn
                      clear hLn hlp hl200 ls2 tb2 bk2 tt2 tl2 ks2 oz2 hzz RCH
                      go_upto_region 28 with fail
                      go_cut [22, 23] from 130 to 136 (fun _ s23 wx => s23 = .bool false ∧ Below wd0.heap.size wd0 wx)
                      case first =>
                        have l0 : ∀ W', Below wd0.heap.size wd0 W' → W'.cell? ⟨z1, 0, none⟩ = some (ap b) := fun W' h => (LQ.out.lb.below h).c0
                        have l1 : ∀ W', Below wd0.heap.size wd0 W' → W'.cell? ⟨z1, 1, none⟩ = some (.pointer (some ⟨bh, 0, none⟩)) := fun W' h => (LQ.out.lb.below h).c1
                        have t0 : ∀ W', Below wd0.heap.size wd0 W' → W'.cell? ⟨zw, 0, none⟩ = some (.int .i64 ((takeL (2, 0, ⟨#[]⟩) l).length : Nat)) := fun W' h => (aU.below h).c0
                        have t1 : ∀ W', Below wd0.heap.size wd0 W' → W'.cell? ⟨zw, 1, none⟩ = some (.int .i64 (m : Nat)) := fun W' h => (aU.below h).c1
                        clear aT aU aV aL aX
                        refine wp_region_noPanic ?_
                        have st : Below wd0.heap.size wd0 wd0.drew := (Below.refl _ wd0).drew
                        refine wp_region_held_drew (S := fun W' => Below wd0.heap.size wd0 W') (by kernel_rfl) st (fun hH => ?_)
                        generalize wd0.drew = Wc at st hH ⊢
                        refine tkH ?_ 0 hH ?_ ?_; rotate_left
                        · intro W' hS; go_simp; with_reducible rfl
                        simp only [tkr]
                        refine tkH ?_ 1 hH ?_ ?_; rotate_left
                        · intro W' hS; go_simp; with_reducible rfl
                        simp only [tkr]
                        refine wpAnyH_ready (rs := [2, 7]) (by kernel_rfl) (by simp) ?_
                        refine AllReadyH.cons rfl (fun K hK => ?_) (AllReadyH.cons rfl (fun K hK => ?_) (AllReadyH.nil))
                        · go_simp
                          refine (lnumber 0 Wc).mono ?_
                          rintro x Wc ⟨rfl, hb9⟩
                          replace st := st.trans (hb9.mono st.size)
                          try replace bx := bx.below hb9
                          clear hb9
                          simp only
                          refine hK.out _ _ ?_ (fun hH => ?_)
                          · exact st
                          clear hK K
                          refine wpAnyH_ready (rs := [3, 7]) (by kernel_rfl) (by simp) ?_
                          refine AllReadyH.cons rfl (fun K hK => ?_) (AllReadyH.cons rfl (fun K hK => ?_) (AllReadyH.nil))
                          · go_simp
                            refine (tLook ((takeL (2, 0, ⟨#[]⟩) l).length) m (2, 0, ⟨#[]⟩) Wc (LQ.out.ar.below st) BQ.out.1.zero BQ.out.2.1).mono ?_
                            rintro x Wc ⟨rfl, hb9⟩
                            rw [HH1.out]
                            replace st := st.trans (hb9.mono st.size)
                            try replace bx := bx.below hb9
                            clear hb9
                            simp only
                            refine hK.out _ _ ?_ (fun hH => ?_)
                            · exact st
                            clear hK K
                            refine tkH ?_ 4 hH ?_ ?_; rotate_left
                            · intro W' hS; go_simp; with_reducible rfl
                            simp only [tkr]
                            refine tkH ?_ 5 hH ?_ ?_; rotate_left
                            · intro W' hS; go_simp; with_reducible rfl
                            simp only [tkr]
                            refine tkH ?_ 6 hH ?_ ?_; rotate_left
                            · intro W' hS; go_simp; with_reducible rfl
                            simp only [tkr]
                            refine rdH 7 rfl (fun K hK => ?_)
                            go_simp
                            have bx := C3.new Wc 36 (.int .u8 0) (.int .i64 0) (.string ⟨#[]⟩)
                            have bz : wd0.heap.size ≤ Wc.heap.size := st.size
                            replace st := st.alloc st.size (.cells #[.int .u8 0, .int .i64 0, .string ⟨#[]⟩] 36)
                            refine hK.out _ _ ?_ (fun hH => ?_)
                            · exact st
                            clear hK K
                            generalize World.alloc _ _ = Wn at st bx hH ⊢
                            generalize Wc.heap.size = zx at bx bz ⊢
                            rename World => Wc
                            refine rdH 8 rfl (fun K hK => ?_)
                            obtain ⟨a0, a1, a2, g0, g1, g2⟩ := bx.all
                            go_simp
                            clear a0 a1 a2 g0 g1 g2
                            replace st := ((st.setCell (p := ⟨zx, 0, none⟩) bz (.int .u8 (lookV (2, 0, ⟨#[]⟩) (takeL (2, 0, ⟨#[]⟩) l)).1)).setCell (p := ⟨zx, 1, none⟩) bz (.int .i64 (lookV (2, 0, ⟨#[]⟩) (takeL (2, 0, ⟨#[]⟩) l)).2.1)).setCell (p := ⟨zx, 2, none⟩) bz (.string (lookV (2, 0, ⟨#[]⟩) (takeL (2, 0, ⟨#[]⟩) l)).2.2)
                            refine hK.out _ _ ?_ (fun hH => ?_)
                            · exact st
                            clear hK K
                            refine tkH ?_ 9 hH ?_ ?_; rotate_left
                            · intro W' hS; go_simp; with_reducible rfl
                            simp only [tkr]
                            refine wpAnyH_done (by kernel_rfl) ?_ _
                            refine NoPanic.normal ?_
                            clear l0 l1 t0 t1
                            go_wp2_with fail
                            go_meet
                            exact ⟨rfl, st⟩
                          · go_simp
                            have bx := C3.new Wc 36 (.int .u8 0) (.int .i64 0) (.string ⟨#[]⟩)
                            have bz : wd0.heap.size ≤ Wc.heap.size := st.size
                            replace st := st.alloc st.size (.cells #[.int .u8 0, .int .i64 0, .string ⟨#[]⟩] 36)
                            refine hK.out _ _ ?_ (fun hH => ?_)
                            · exact st
                            clear hK K
                            generalize World.alloc _ _ = Wn at st bx hH ⊢
                            generalize Wc.heap.size = zx at bx bz ⊢
                            rename World => Wc
                            refine rdH 3 rfl (fun K hK => ?_)
                            go_simp
                            refine (tLook ((takeL (2, 0, ⟨#[]⟩) l).length) m (2, 0, ⟨#[]⟩) Wc (LQ.out.ar.below st) BQ.out.1.zero BQ.out.2.1).mono ?_
                            rintro x Wc ⟨rfl, hb9⟩
                            rw [HH1.out]
                            replace st := st.trans (hb9.mono st.size)
                            try replace bx := bx.below hb9
                            clear hb9
                            simp only
                            refine hK.out _ _ ?_ (fun hH => ?_)
                            · exact st
                            clear hK K
                            refine tkH ?_ 4 hH ?_ ?_; rotate_left
                            · intro W' hS; go_simp; with_reducible rfl
                            simp only [tkr]
                            refine tkH ?_ 5 hH ?_ ?_; rotate_left
                            · intro W' hS; go_simp; with_reducible rfl
                            simp only [tkr]
                            refine tkH ?_ 6 hH ?_ ?_; rotate_left
                            · intro W' hS; go_simp; with_reducible rfl
                            simp only [tkr]
                            refine rdH 8 rfl (fun K hK => ?_)
                            obtain ⟨a0, a1, a2, g0, g1, g2⟩ := bx.all
                            go_simp
                            clear a0 a1 a2 g0 g1 g2
                            replace st := ((st.setCell (p := ⟨zx, 0, none⟩) bz (.int .u8 (lookV (2, 0, ⟨#[]⟩) (takeL (2, 0, ⟨#[]⟩) l)).1)).setCell (p := ⟨zx, 1, none⟩) bz (.int .i64 (lookV (2, 0, ⟨#[]⟩) (takeL (2, 0, ⟨#[]⟩) l)).2.1)).setCell (p := ⟨zx, 2, none⟩) bz (.string (lookV (2, 0, ⟨#[]⟩) (takeL (2, 0, ⟨#[]⟩) l)).2.2)
                            refine hK.out _ _ ?_ (fun hH => ?_)
                            · exact st
                            clear hK K
                            refine tkH ?_ 9 hH ?_ ?_; rotate_left
                            · intro W' hS; go_simp; with_reducible rfl
                            simp only [tkr]
                            refine wpAnyH_done (by kernel_rfl) ?_ _
                            refine NoPanic.normal ?_
                            clear l0 l1 t0 t1
                            go_wp2_with fail
                            go_meet
                            exact ⟨rfl, st⟩
                        · go_simp
                          have bx := C3.new Wc 36 (.int .u8 0) (.int .i64 0) (.string ⟨#[]⟩)
                          have bz : wd0.heap.size ≤ Wc.heap.size := st.size
                          replace st := st.alloc st.size (.cells #[.int .u8 0, .int .i64 0, .string ⟨#[]⟩] 36)
                          refine hK.out _ _ ?_ (fun hH => ?_)
                          · exact st
                          clear hK K
                          generalize World.alloc _ _ = Wn at st bx hH ⊢
                          generalize Wc.heap.size = zx at bx bz ⊢
                          rename World => Wc
                          refine rdH 2 rfl (fun K hK => ?_)
                          go_simp
                          refine (lnumber 0 Wc).mono ?_
                          rintro x Wc ⟨rfl, hb9⟩
                          replace st := st.trans (hb9.mono st.size)
                          try replace bx := bx.below hb9
                          clear hb9
                          simp only
                          refine hK.out _ _ ?_ (fun hH => ?_)
                          · exact st
                          clear hK K
                          refine rdH 3 rfl (fun K hK => ?_)
                          go_simp
                          refine (tLook ((takeL (2, 0, ⟨#[]⟩) l).length) m (2, 0, ⟨#[]⟩) Wc (LQ.out.ar.below st) BQ.out.1.zero BQ.out.2.1).mono ?_
                          rintro x Wc ⟨rfl, hb9⟩
                          rw [HH1.out]
                          replace st := st.trans (hb9.mono st.size)
                          try replace bx := bx.below hb9
                          clear hb9
                          simp only
                          refine hK.out _ _ ?_ (fun hH => ?_)
                          · exact st
                          clear hK K
                          refine tkH ?_ 4 hH ?_ ?_; rotate_left
                          · intro W' hS; go_simp; with_reducible rfl
                          simp only [tkr]
                          refine tkH ?_ 5 hH ?_ ?_; rotate_left
                          · intro W' hS; go_simp; with_reducible rfl
                          simp only [tkr]
                          refine tkH ?_ 6 hH ?_ ?_; rotate_left
                          · intro W' hS; go_simp; with_reducible rfl
                          simp only [tkr]
                          refine rdH 8 rfl (fun K hK => ?_)
                          obtain ⟨a0, a1, a2, g0, g1, g2⟩ := bx.all
                          go_simp
                          clear a0 a1 a2 g0 g1 g2
                          replace st := ((st.setCell (p := ⟨zx, 0, none⟩) bz (.int .u8 (lookV (2, 0, ⟨#[]⟩) (takeL (2, 0, ⟨#[]⟩) l)).1)).setCell (p := ⟨zx, 1, none⟩) bz (.int .i64 (lookV (2, 0, ⟨#[]⟩) (takeL (2, 0, ⟨#[]⟩) l)).2.1)).setCell (p := ⟨zx, 2, none⟩) bz (.string (lookV (2, 0, ⟨#[]⟩) (takeL (2, 0, ⟨#[]⟩) l)).2.2)
                          refine hK.out _ _ ?_ (fun hH => ?_)
                          · exact st
                          clear hK K
                          refine tkH ?_ 9 hH ?_ ?_; rotate_left
                          · intro W' hS; go_simp; with_reducible rfl
                          simp only [tkr]
                          refine wpAnyH_done (by kernel_rfl) ?_ _
                          refine NoPanic.normal ?_
                          clear l0 l1 t0 t1
                          go_wp2_with fail
                          go_meet
                          exact ⟨rfl, st⟩
                      case rest =>
                        obtain ⟨rfl, hb9⟩ := hcut
                        rename World => we
                        replace LQ := Lib.hid (LQ.out.below hb9)
                        replace aT := aT.below hb9
                        replace aU := aU.below hb9
                        replace aV := aV.below hb9
                        replace aL := aL.below hb9
                        clear hb9
                        go_upto_region 29 with fail
                        go_cut [24, 25] from 137 to 143 (fun _ s25 wx => s25 = .bool true ∧ Below we.heap.size we wx)
                        case first =>
                          have l0 : ∀ W', Below we.heap.size we W' → W'.cell? ⟨z1, 0, none⟩ = some (ap b) := fun W' h => (LQ.out.lb.below h).c0
                          have l1 : ∀ W', Below we.heap.size we W' → W'.cell? ⟨z1, 1, none⟩ = some (.pointer (some ⟨bh, 0, none⟩)) := fun W' h => (LQ.out.lb.below h).c1
                          have t0 : ∀ W', Below we.heap.size we W' → W'.cell? ⟨zt, 0, none⟩ = some (.int .i64 (l.length : Nat)) := fun W' h => (aT.below h).c0
                          have t1 : ∀ W', Below we.heap.size we W' → W'.cell? ⟨zt, 1, none⟩ = some (.int .i64 (nn : Nat)) := fun W' h => (aT.below h).c1
                          clear aT aU aV aL aX
                          refine wp_region_noPanic ?_
                          have st : Below we.heap.size we we.drew := (Below.refl _ we).drew
                          refine wp_region_held_drew (S := fun W' => Below we.heap.size we W') (by kernel_rfl) st (fun hH => ?_)
                          generalize we.drew = Wc at st hH ⊢
                          refine tkH ?_ 0 hH ?_ ?_; rotate_left
                          · intro W' hS; go_simp; with_reducible rfl
                          simp only [tkr]
                          refine tkH ?_ 1 hH ?_ ?_; rotate_left
                          · intro W' hS; go_simp; with_reducible rfl
                          simp only [tkr]
                          refine wpAnyH_ready (rs := [2, 7]) (by kernel_rfl) (by simp) ?_
                          refine AllReadyH.cons rfl (fun K hK => ?_) (AllReadyH.cons rfl (fun K hK => ?_) (AllReadyH.nil))
                          · go_simp
                            refine (lnumber 0 Wc).mono ?_
                            rintro x Wc ⟨rfl, hb9⟩
                            replace st := st.trans (hb9.mono st.size)
                            try replace bx := bx.below hb9
                            clear hb9
                            simp only
                            refine hK.out _ _ ?_ (fun hH => ?_)
                            · exact st
                            clear hK K
                            refine wpAnyH_ready (rs := [3, 7]) (by kernel_rfl) (by simp) ?_
                            refine AllReadyH.cons rfl (fun K hK => ?_) (AllReadyH.cons rfl (fun K hK => ?_) (AllReadyH.nil))
                            · go_simp
                              refine (tLook (l.length) nn (2, 0, ⟨#[]⟩) Wc (LQ.out.ar.below st) BQ.out.1.zero BQ.out.2.2.1).mono ?_
                              rintro x Wc ⟨rfl, hb9⟩
                              rw [HH2.out]
                              replace st := st.trans (hb9.mono st.size)
                              try replace bx := bx.below hb9
                              clear hb9
                              simp only
                              refine hK.out _ _ ?_ (fun hH => ?_)
                              · exact st
                              clear hK K
                              refine tkH ?_ 4 hH ?_ ?_; rotate_left
                              · intro W' hS; go_simp; with_reducible rfl
                              simp only [tkr]
                              refine tkH ?_ 5 hH ?_ ?_; rotate_left
                              · intro W' hS; go_simp; with_reducible rfl
                              simp only [tkr]
                              refine tkH ?_ 6 hH ?_ ?_; rotate_left
                              · intro W' hS; go_simp; with_reducible rfl
                              simp only [tkr]
                              refine rdH 7 rfl (fun K hK => ?_)
                              go_simp
                              have bx := C3.new Wc 36 (.int .u8 0) (.int .i64 0) (.string ⟨#[]⟩)
                              have bz : we.heap.size ≤ Wc.heap.size := st.size
                              replace st := st.alloc st.size (.cells #[.int .u8 0, .int .i64 0, .string ⟨#[]⟩] 36)
                              refine hK.out _ _ ?_ (fun hH => ?_)
                              · exact st
                              clear hK K
                              generalize World.alloc _ _ = Wn at st bx hH ⊢
                              generalize Wc.heap.size = zx at bx bz ⊢
                              rename World => Wc
                              refine rdH 8 rfl (fun K hK => ?_)
                              obtain ⟨a0, a1, a2, g0, g1, g2⟩ := bx.all
                              go_simp
                              clear a0 a1 a2 g0 g1 g2
                              replace st := ((st.setCell (p := ⟨zx, 0, none⟩) bz (.int .u8 (lookV (2, 0, ⟨#[]⟩) (l)).1)).setCell (p := ⟨zx, 1, none⟩) bz (.int .i64 (lookV (2, 0, ⟨#[]⟩) (l)).2.1)).setCell (p := ⟨zx, 2, none⟩) bz (.string (lookV (2, 0, ⟨#[]⟩) (l)).2.2)
                              refine hK.out _ _ ?_ (fun hH => ?_)
                              · exact st
                              clear hK K
                              refine tkH ?_ 9 hH ?_ ?_; rotate_left
                              · intro W' hS; go_simp; with_reducible rfl
                              simp only [tkr]
                              refine wpAnyH_done (by kernel_rfl) ?_ _
                              refine NoPanic.normal ?_
                              clear l0 l1 t0 t1
                              go_wp2_with fail
                              go_meet
                              exact ⟨rfl, st⟩
                            · go_simp
                              have bx := C3.new Wc 36 (.int .u8 0) (.int .i64 0) (.string ⟨#[]⟩)
                              have bz : we.heap.size ≤ Wc.heap.size := st.size
                              replace st := st.alloc st.size (.cells #[.int .u8 0, .int .i64 0, .string ⟨#[]⟩] 36)
                              refine hK.out _ _ ?_ (fun hH => ?_)
                              · exact st
                              clear hK K
                              generalize World.alloc _ _ = Wn at st bx hH ⊢
                              generalize Wc.heap.size = zx at bx bz ⊢
                              rename World => Wc
                              refine rdH 3 rfl (fun K hK => ?_)
                              go_simp
                              refine (tLook (l.length) nn (2, 0, ⟨#[]⟩) Wc (LQ.out.ar.below st) BQ.out.1.zero BQ.out.2.2.1).mono ?_
                              rintro x Wc ⟨rfl, hb9⟩
                              rw [HH2.out]
                              replace st := st.trans (hb9.mono st.size)
                              try replace bx := bx.below hb9
                              clear hb9
                              simp only
                              refine hK.out _ _ ?_ (fun hH => ?_)
                              · exact st
                              clear hK K
                              refine tkH ?_ 4 hH ?_ ?_; rotate_left
                              · intro W' hS; go_simp; with_reducible rfl
                              simp only [tkr]
                              refine tkH ?_ 5 hH ?_ ?_; rotate_left
                              · intro W' hS; go_simp; with_reducible rfl
                              simp only [tkr]
                              refine tkH ?_ 6 hH ?_ ?_; rotate_left
                              · intro W' hS; go_simp; with_reducible rfl
                              simp only [tkr]
                              refine rdH 8 rfl (fun K hK => ?_)
                              obtain ⟨a0, a1, a2, g0, g1, g2⟩ := bx.all
                              go_simp
                              clear a0 a1 a2 g0 g1 g2
                              replace st := ((st.setCell (p := ⟨zx, 0, none⟩) bz (.int .u8 (lookV (2, 0, ⟨#[]⟩) (l)).1)).setCell (p := ⟨zx, 1, none⟩) bz (.int .i64 (lookV (2, 0, ⟨#[]⟩) (l)).2.1)).setCell (p := ⟨zx, 2, none⟩) bz (.string (lookV (2, 0, ⟨#[]⟩) (l)).2.2)
                              refine hK.out _ _ ?_ (fun hH => ?_)
                              · exact st
                              clear hK K
                              refine tkH ?_ 9 hH ?_ ?_; rotate_left
                              · intro W' hS; go_simp; with_reducible rfl
                              simp only [tkr]
                              refine wpAnyH_done (by kernel_rfl) ?_ _
                              refine NoPanic.normal ?_
                              clear l0 l1 t0 t1
                              go_wp2_with fail
                              go_meet
                              exact ⟨rfl, st⟩
                          · go_simp
                            have bx := C3.new Wc 36 (.int .u8 0) (.int .i64 0) (.string ⟨#[]⟩)
                            have bz : we.heap.size ≤ Wc.heap.size := st.size
                            replace st := st.alloc st.size (.cells #[.int .u8 0, .int .i64 0, .string ⟨#[]⟩] 36)
                            refine hK.out _ _ ?_ (fun hH => ?_)
                            · exact st
                            clear hK K
                            generalize World.alloc _ _ = Wn at st bx hH ⊢
                            generalize Wc.heap.size = zx at bx bz ⊢
                            rename World => Wc
                            refine rdH 2 rfl (fun K hK => ?_)
                            go_simp
                            refine (lnumber 0 Wc).mono ?_
                            rintro x Wc ⟨rfl, hb9⟩
                            replace st := st.trans (hb9.mono st.size)
                            try replace bx := bx.below hb9
                            clear hb9
                            simp only
                            refine hK.out _ _ ?_ (fun hH => ?_)
                            · exact st
                            clear hK K
                            refine rdH 3 rfl (fun K hK => ?_)
                            go_simp
                            refine (tLook (l.length) nn (2, 0, ⟨#[]⟩) Wc (LQ.out.ar.below st) BQ.out.1.zero BQ.out.2.2.1).mono ?_
                            rintro x Wc ⟨rfl, hb9⟩
                            rw [HH2.out]
                            replace st := st.trans (hb9.mono st.size)
                            try replace bx := bx.below hb9
                            clear hb9
                            simp only
                            refine hK.out _ _ ?_ (fun hH => ?_)
                            · exact st
                            clear hK K
                            refine tkH ?_ 4 hH ?_ ?_; rotate_left
                            · intro W' hS; go_simp; with_reducible rfl
                            simp only [tkr]
                            refine tkH ?_ 5 hH ?_ ?_; rotate_left
                            · intro W' hS; go_simp; with_reducible rfl
                            simp only [tkr]
                            refine tkH ?_ 6 hH ?_ ?_; rotate_left
                            · intro W' hS; go_simp; with_reducible rfl
                            simp only [tkr]
                            refine rdH 8 rfl (fun K hK => ?_)
                            obtain ⟨a0, a1, a2, g0, g1, g2⟩ := bx.all
                            go_simp
                            clear a0 a1 a2 g0 g1 g2
                            replace st := ((st.setCell (p := ⟨zx, 0, none⟩) bz (.int .u8 (lookV (2, 0, ⟨#[]⟩) (l)).1)).setCell (p := ⟨zx, 1, none⟩) bz (.int .i64 (lookV (2, 0, ⟨#[]⟩) (l)).2.1)).setCell (p := ⟨zx, 2, none⟩) bz (.string (lookV (2, 0, ⟨#[]⟩) (l)).2.2)
                            refine hK.out _ _ ?_ (fun hH => ?_)
                            · exact st
                            clear hK K
                            refine tkH ?_ 9 hH ?_ ?_; rotate_left
                            · intro W' hS; go_simp; with_reducible rfl
                            simp only [tkr]
                            refine wpAnyH_done (by kernel_rfl) ?_ _
                            refine NoPanic.normal ?_
                            clear l0 l1 t0 t1
                            go_wp2_with fail
                            go_meet
                            exact ⟨rfl, st⟩
                        case rest =>
                          obtain ⟨rfl, hb9⟩ := hcut
                          rename World => wg
                          replace LQ := Lib.hid (LQ.out.below hb9)
                          replace aT := aT.below hb9
                          replace aU := aU.below hb9
                          replace aV := aV.below hb9
                          replace aL := aL.below hb9
                          clear hb9
                          have AU := Lib.hid aU
                          rw [HLN.out] at aU
                          have hw1 : IntKind.i64.wrap ((l.length : Int) - 1) = (l.length : Int) - 1 := IntWalk.i64_in _ (by have := HK.out.len; have := HKK.out.2.1; omega)
                          have hw2 : wrap64 ((l.length : Int) - 1) = (l.length : Int) - 1 := IntWalk.wrap64_in _ (by have := HK.out.len; have := HKK.out.2.1; omega)
                          have x0 := LQ.out.lb.c0
                          obtain ⟨y0, y1⟩ := And.intro aU.c0 aU.c1
                          obtain ⟨v0, v1⟩ := And.intro aT.c0 aT.c1
                          have AA := Lib.hid (And.intro aT (And.intro aV (And.intro aL aX)))
                          clear aT aU aV aL aX
                          go_wp2_with fail
                          refine (rdrop RM3.out (fun j => by have := HP.out j; omega) LQ.out AA.out.1 BQ.out.2.2.2.2.1 BQ.out.1 BQ.out.2.2.1 BQ.out.2.2.2.1).mono ?_
                          rintro x wh ⟨⟨zd, rfl⟩, M'', F'', rm6, hl6, hF6, hk6⟩
                          have hzz := BQ.out.2.2.2.2.2
                          have ow0 := hzz zw (by simp)
                          have aw0 := AU.out
                          have ok0 := Own11.keep (W := wg) ow0 aw0.lt hF6
                          replace aw0 := aw0.kp hk6 ow0.2.1
                          have ow1 := hzz zu (by simp)
                          have aw1 := AA.out.2.1
                          have ok1 := Own11.keep (W := wg) ow1 aw1.lt hF6
                          replace aw1 := aw1.kp hk6 ow1.2.1
                          have ow2 := hzz zl (by simp)
                          have aw2 := AA.out.2.2.1
                          have ok2 := Own11.keep (W := wg) ow2 aw2.lt hF6
                          replace aw2 := aw2.kp hk6 ow2.2.1
                          clear x0 y0 y1 v0 v1 hw1 hw2
                          go_wp2_with fail
                          go_meet
                          exact ⟨M'', F'', rm6, by have := HLV3.out; omega, aw0, aw1, aw2, ⟨ok0, ok1, ok2⟩, .inl (by trivial)⟩
                    · go_wp2_with fail
                      go_meet
                      exact ⟨_, _, rm5, HLV3.out.symm, aU, aV, aL, ⟨hzz zw (by simp), hzz zu (by simp), hzz zl (by simp)⟩, .inr ⟨by trivial, by trivial, by trivial, by have := HLV3.out; omega⟩⟩
                  case rest =>
                    obtain ⟨M4, F4, rm, hl4, aU, aV, aL, -, hg2⟩ := hcut
                    rename World => wi
                    have RM4 := Lib.hid rm
                    have q1 := aL.c0
                    have x0 := rm.ls.lb.c0
                    have u0 := aU.c0
                    have u1 := aU.c1
                    have v0 := aV.c0
                    have v1 := aV.c1
                    clear rm
                    go_upto_region 34 with fail
                    go_wp2_with fail
                    have hl200 : l.length ≤ 200 := by have := HK.out.len; have := HKK.out.2.1; omega
                    have HL2 := Lib.hid hl200
                    have A4 := Lib.hid (And.intro aL aU)
                    refine (lfull er N1 n1 (4096 - (lv : Int)) (nn : Int) (l.length : Int) zl zt wi HG1.out ⟨by omega, by omega⟩ aL RM4.out.tb).mono ?_
                    rintro x w8 ⟨rfl, hb8⟩
                    have RM8 := Lib.hid (RM4.out.below hb8)
                    have A8 := Lib.hid (And.intro (A4.out.1.below hb8) (A4.out.2.below hb8))
                    clear hb8 RM4 A4 q1 x0 u0 u1 v0 v1 aL aU aV hl200
                    have x0 := RM8.out.ls.lb.c0
                    have u0 := A8.out.2.c0
                    have u1 := A8.out.2.c1
                    go_wp2_with fail
                    refine (lfull er2 N2 n2 (4096 - (lv : Int)) (nn : Int) (l.length : Int) zl zt w8 hg2 ⟨by omega, by have := HL2.out; omega⟩ A8.out.1 RM8.out.tb).mono ?_
                    rintro x w9 ⟨rfl, hb9⟩
                    have RM9 := Lib.hid (RM8.out.below hb9)
                    clear hb9 RM8 A8 x0 u0 u1
                    have x0 := RM9.out.ls.lb.c0
                    go_wp2_with fail
                    refine (alive b 4096 M4 F4 _ RM9.out.ls.ar).mono ?_
                    rintro x wt ⟨rfl, rfl⟩
                    rw [hl4]
                    go_wp2_with fail
                    go_ret
                    exact ⟨rfl, RM9.out.ls.bel⟩
end
end Go.Proofs.YtghbbpbhbinioaaGreat

/- Several texts in one. -/
import Derived.Test.YtdddhmipifkepaaGreatMq26
import Derived.Test.YtdddhmipifkepaaGreatMq11
import Derived.Deep.LoopGhost
import Derived.IntWalk
set_option linter.unusedSimpArgs false
namespace Go.Proofs.YtdddhmipifkepaaGreat
set_option maxRecDepth 100000
set_option linter.unusedSimpArgs false
set_option linter.unusedVariables false
open Go.RowKit Go.Shelf
structure O4 (W : World) (z3 z4 z5 b bh Na ra Nb rb : Nat) : Prop where
  lb : C2 W z3 26 (ap b) (.pointer (some ⟨bh, 0, none⟩))
  sa : C2 W z4 54 (.int .i64 (Na : Int)) (.int .i64 (ra : Int))
  sb : C2 W z5 54 (.int .i64 (Nb : Int)) (.int .i64 (rb : Int))
theorem O4.kp {W W' : World} {z3 z4 z5 b bh Na ra Nb rb : Nat} {G : Nat → Prop} (h : O4 W z3 z4 z5 b bh Na ra Nb rb) (hk : Kp G W W') (hG : ∀ q, q = z3 ∨ q = z4 ∨ q = z5 → ¬ G q) : O4 W' z3 z4 z5 b bh Na ra Nb rb :=
  ⟨h.lb.kp hk (hG _ (.inl rfl)), h.sa.kp hk (hG _ (.inr (.inl rfl))), h.sb.kp hk (hG _ (.inr (.inr rfl)))⟩
theorem O4.below {W W' : World} {z3 z4 z5 b bh Na ra Nb rb : Nat} (h : O4 W z3 z4 z5 b bh Na ra Nb rb) (hb : Below W.heap.size W W') : O4 W' z3 z4 z5 b bh Na ra Nb rb := h.kp (Kp.of_below hb (fun _ => False)) (fun _ _ h => h)
theorem O4.new (w : World) (b bh ra rb : Nat) (la lb : List Pr) : O4 ((((w.alloc (.cells #[ap b, .pointer (some ⟨bh, 0, none⟩)] 26)).alloc (.cells #[.int .i64 (la.length : Int), .int .i64 (ra : Int)] 54)).alloc (.cells #[.int .i64 (lb.length : Int), .int .i64 (rb : Int)] 54)).alloc (.cells #[.int .i64 0, .int .i64 0] 54)) w.heap.size (w.heap.size + 1) (w.heap.size + 1 + 1) b bh la.length ra lb.length rb ∧ C2 ((((w.alloc (.cells #[ap b, .pointer (some ⟨bh, 0, none⟩)] 26)).alloc (.cells #[.int .i64 (la.length : Int), .int .i64 (ra : Int)] 54)).alloc (.cells #[.int .i64 (lb.length : Int), .int .i64 (rb : Int)] 54)).alloc (.cells #[.int .i64 0, .int .i64 0] 54)) (w.heap.size + 1 + 1 + 1) 54 (.int .i64 0) (.int .i64 0) ∧ Below w.heap.size w ((((w.alloc (.cells #[ap b, .pointer (some ⟨bh, 0, none⟩)] 26)).alloc (.cells #[.int .i64 (la.length : Int), .int .i64 (ra : Int)] 54)).alloc (.cells #[.int .i64 (lb.length : Int), .int .i64 (rb : Int)] 54)).alloc (.cells #[.int .i64 0, .int .i64 0] 54)) ∧ ((((w.alloc (.cells #[ap b, .pointer (some ⟨bh, 0, none⟩)] 26)).alloc (.cells #[.int .i64 (la.length : Int), .int .i64 (ra : Int)] 54)).alloc (.cells #[.int .i64 (lb.length : Int), .int .i64 (rb : Int)] 54)).alloc (.cells #[.int .i64 0, .int .i64 0] 54)).heap.size = w.heap.size + 1 + 1 + 1 + 1 := by
  refine ⟨⟨(((C2.new w 26 (ap b) (.pointer (some ⟨bh, 0, none⟩))).alloc _).alloc _).alloc _, ?_, ?_⟩, ?_, ((((Below.refl _ w).alloc (Nat.le_refl _) _).alloc (by simp) _).alloc (by simp; omega) _).alloc (by simp; omega) _, by simp⟩
  · have h := ((C2.new (w.alloc (.cells #[ap b, .pointer (some ⟨bh, 0, none⟩)] 26)) 54 (.int .i64 (la.length : Int)) (.int .i64 (ra : Int))).alloc (.cells #[.int .i64 (lb.length : Int), .int .i64 (rb : Int)] 54)).alloc (.cells #[.int .i64 0, .int .i64 0] 54)
    simpa using h
  · have h := (C2.new ((w.alloc (.cells #[ap b, .pointer (some ⟨bh, 0, none⟩)] 26)).alloc (.cells #[.int .i64 (la.length : Int), .int .i64 (ra : Int)] 54)) 54 (.int .i64 (lb.length : Int)) (.int .i64 (rb : Int))).alloc (.cells #[.int .i64 0, .int .i64 0] 54)
    simpa using h
  · have h := C2.new (((w.alloc (.cells #[ap b, .pointer (some ⟨bh, 0, none⟩)] 26)).alloc (.cells #[.int .i64 (la.length : Int), .int .i64 (ra : Int)] 54)).alloc (.cells #[.int .i64 (lb.length : Int), .int .i64 (rb : Int)] 54)) 54 (.int .i64 0) (.int .i64 0)
    simpa using h
def SetOp (w : World) (F : Nat → Prop) (b bh seed most : Nat) (hs : Ky → Nat) (M : Cells) (P : Nat → Nat) (L : List Pr) (cnt : Nat) (N n er : Int) (w' : World) : Prop :=
  (∃ (n' : Nat) (M' : Cells) (F' : Nat → Prop), (N = (L.length : Int) ∧ n = (n' : Int) ∧ er = 0) ∧ FromR w w' F b bh seed most M P M' F' [n'] cnt ∧ Mp M' hs n' L) ∨
  (∃ (M' : Cells) (F' : Nat → Prop), (N = 0 ∧ n = 0 ∧ er = 5) ∧ most < live (most + 1) M + 16 * cnt + 16 ∧ FromR w w' F b bh seed most M P M' F' [] cnt)
theorem FromR.size {w w' : World} {F F' : Nat → Prop} {b bh seed most : Nat} {M M' : Cells} {P : Nat → Nat} {hx : List Nat} {cnt : Nat} (h : FromR w w' F b bh seed most M P M' F' hx cnt) : w.heap.size ≤ w'.heap.size := h.kp.size
theorem SetOp.kpz {w w0 w' w'' : World} {F : Nat → Prop} {b bh seed most : Nat} {hs : Ky → Nat} {M : Cells} {P : Nat → Nat} {L : List Pr} {cnt : Nat} {N n er : Int} {z : Nat} (h : SetOp w0 F b bh seed most hs M P L cnt N n er w') (hb : Below w.heap.size w w0) (hk : Kp (fun q => q = z) w' w'') (hz : w.heap.size ≤ z ∧ z < w0.heap.size ∧ ¬ F z ∧ z ≠ bh) : SetOp w F b bh seed most hs M P L cnt N n er w'' := by
  rcases h with ⟨n', M', F', h1, h2, h3⟩ | ⟨M', F', h1, h2, h3⟩
  · exact .inl ⟨n', M', F', h1, (h2.base hb).kpz hk (fun q e => by subst e; exact ⟨hz.1, fun hf => (h2.fr q hf).elim hz.2.2.1 (fun e => by omega), hz.2.2.2⟩), h3⟩
  · exact .inr ⟨M', F', h1, h2, (h3.base hb).kpz hk (fun q e => by subst e; exact ⟨hz.1, fun hf => (h3.fr q hf).elim hz.2.2.1 (fun e => by omega), hz.2.2.2⟩)⟩
theorem SetOp.kp {w w' : World} {F : Nat → Prop} {b bh seed most : Nat} {hs : Ky → Nat} {M : Cells} {P : Nat → Nat} {L : List Pr} {cnt : Nat} {N n er : Int} (h : SetOp w F b bh seed most hs M P L cnt N n er w') : Kp (fun q => F q ∨ q = bh) w w' := by
  rcases h with ⟨n', M', F', h1, h2, h3⟩ | ⟨M', F', h1, h2, h3⟩
  · exact h2.kp
  · exact h3.kp
section
variable {b bh seed most ra rb : Nat} {M : Cells} {F : Nat → Prop} {hs : Ky → Nat} {P : Nat → Nat} {la lb : List Pr}
set_option maxHeartbeats 4000000 in
theorem vOr (w : World) (h : Ar w b most M F) (hm : most ≤ 1048576) (hP : ∀ j, P j ≤ 576460752303423488) (hb : Bk (most + 1) M [] P []) (hh : Hs w bh seed) (nbh : ¬ F bh) (hhs : ∀ q, OkK q → hs q = hashN seed q.1 q.2.1 q.2.2) (hra : Rt P ra) (hrb : Rt P rb) (hTa : Mp M hs ra la) (hTb : Mp M hs rb lb) (hka : ∀ q ∈ la, OkK q.1) (hkb : ∀ q ∈ lb, OkK q.1) (hn : la.length + lb.length ≤ 1000) :
    Calls Tryz.prog 25 #[land b bh, .agg #[.int .i64 (la.length : Nat), .int .i64 (ra : Nat)], .agg #[.int .i64 (lb.length : Nat), .int .i64 (rb : Nat)]] w fun e w' => ∃ N n er : Int, e = .returned (.tuple #[.agg #[.int .i64 N, .int .i64 n], .int .i64 er]) ∧ SetOp w F b bh seed most hs M P (addAll hs (fun _ => true) (la.map Prod.fst ++ lb.map Prod.fst) []) (la.length + lb.length) N n er w' := by
  have hbl := hh.lt
  have hFl : ∀ q, F q → q < w.heap.size := fun q hq => h.lt hq
  obtain ⟨o4, q6, hb0, hsz⟩ := O4.new w b bh ra rb la lb
  have HH := Lib.hid (And.intro h (And.intro hm (And.intro hP (And.intro hb (And.intro hh (And.intro nbh hhs))))))
  have HS := Lib.hid (And.intro hra (And.intro hrb (And.intro hTa (And.intro hTb (And.intro hka (And.intro hkb hn))))))
  clear h hm hP hb hh nbh hhs hra hrb hTa hTb hka hkb hn
  go_enter Tryz.func25, Tryz.ntmps25
  go_upto_region 1 with fail
  generalize ((((w.alloc (.cells #[ap b, .pointer (some ⟨bh, 0, none⟩)] 26)).alloc (.cells #[.int .i64 (la.length : Int), .int .i64 (ra : Int)] 54)).alloc (.cells #[.int .i64 (lb.length : Int), .int .i64 (rb : Int)] 54)).alloc (.cells #[.int .i64 0, .int .i64 0] 54)) = W1 at o4 q6 hb0 hsz ⊢
  obtain ⟨z6, hz6⟩ : ∃ z, z = w.heap.size + 1 + 1 + 1 := ⟨_, rfl⟩
  obtain ⟨z5, hz5⟩ : ∃ z, z = w.heap.size + 1 + 1 := ⟨_, rfl⟩
  obtain ⟨z4, hz4⟩ : ∃ z, z = w.heap.size + 1 := ⟨_, rfl⟩
  obtain ⟨z3, hz3⟩ : ∃ z, z = w.heap.size := ⟨_, rfl⟩
  rw [← hz5, ← hz4, ← hz3] at o4
  rw [← hz6] at q6
  rw [← hz6, ← hz5, ← hz4, ← hz3]
  have HZ := Lib.hid (show z3 = w.heap.size ∧ z4 = w.heap.size + 1 ∧ z5 = w.heap.size + 2 ∧ z6 = w.heap.size + 3 ∧ W1.heap.size = w.heap.size + 4 ∧ bh < w.heap.size ∧ ∀ q, F q → q < w.heap.size from ⟨hz3, by omega, by omega, by omega, by omega, hbl, hFl⟩)
  clear hz6 hz5 hz4 hz3 hsz hbl hFl
  have l0 : ∀ W', O4 W' z3 z4 z5 b bh la.length ra lb.length rb → W'.cell? ⟨z3, 0, none⟩ = some (ap b) := fun W' h => h.lb.c0
  have l1 : ∀ W', O4 W' z3 z4 z5 b bh la.length ra lb.length rb → W'.cell? ⟨z3, 1, none⟩ = some (.pointer (some ⟨bh, 0, none⟩)) := fun W' h => h.lb.c1
  have a0 : ∀ W', O4 W' z3 z4 z5 b bh la.length ra lb.length rb → W'.cell? ⟨z4, 0, none⟩ = some (.int .i64 (la.length : Int)) := fun W' h => h.sa.c0
  have a1 : ∀ W', O4 W' z3 z4 z5 b bh la.length ra lb.length rb → W'.cell? ⟨z4, 1, none⟩ = some (.int .i64 (ra : Int)) := fun W' h => h.sa.c1
  have b0 : ∀ W', O4 W' z3 z4 z5 b bh la.length ra lb.length rb → W'.cell? ⟨z5, 0, none⟩ = some (.int .i64 (lb.length : Int)) := fun W' h => h.sb.c0
  have b1 : ∀ W', O4 W' z3 z4 z5 b bh la.length ra lb.length rb → W'.cell? ⟨z5, 1, none⟩ = some (.int .i64 (rb : Int)) := fun W' h => h.sb.c1
  refine wp_region_noPanic ?_
  have hd : Below W1.heap.size W1 W1.drew := (Below.refl _ W1).drew
  have sp := o4.below hd
  have bw := Lib.hid (hb0.trans (hd.mono hb0.size))
  have Q6 := Lib.hid (q6.below hd)
  have nfz := Lib.hid (show ∀ z, w.heap.size ≤ z → ¬ (F z ∨ z = bh) from fun z hz h => h.elim (fun hf => by have := HZ.out.2.2.2.2.2.2 z hf; omega) (fun e => by have := HZ.out; omega))
  refine wp_region_held_drew (S := fun W' => O4 W' z3 z4 z5 b bh la.length ra lb.length rb) (by kernel_rfl) sp (fun hH => ?_)
  have szc := Lib.hid (show w.heap.size + 4 ≤ W1.drew.heap.size from by have := HZ.out; have := hd.size; omega)
  clear hd hb0 o4 q6
  generalize W1.drew = Wc at sp bw szc Q6 hH ⊢
  refine tkH ?_ 0 hH ?_ ?_; rotate_left
  · intro W' hS; go_simp; with_reducible rfl
  simp only [tkr]
  refine tkH ?_ 1 hH ?_ ?_; rotate_left
  · intro W' hS; go_simp; with_reducible rfl
  simp only [tkr]
  refine tkH ?_ 2 hH ?_ ?_; rotate_left
  · intro W' hS; go_simp; with_reducible rfl
  simp only [tkr]
  refine tkH ?_ 4 hH ?_ ?_; rotate_left
  · intro W' hS; go_simp; with_reducible rfl
  simp only [tkr]
  refine tkH ?_ 5 hH ?_ ?_; rotate_left
  · intro W' hS; go_simp; with_reducible rfl
  simp only [tkr]
  refine rdH 3 rfl (fun K hK => ?_)
  go_simp
  refine (vValues b bh la.length ra Wc).mono ?_
  rintro x Wd ⟨zl, zs, rfl, c1, c2, g1, g2, hbd⟩
  have sp2 := sp.below hbd
  have Q62 := Lib.hid (Q6.out.below hbd)
  have bw2 := Lib.hid (bw.out.trans (hbd.mono bw.out.size))
  have cs1 := Lib.hid (And.intro c1 (And.intro c2 (And.intro (Nat.le_trans szc.out g1) (Nat.le_trans szc.out g2))))
  have szd := Lib.hid (Nat.le_trans szc.out hbd.size)
  clear c1 c2 g1 g2 sp Q6 hbd
  simp only
  refine hK.out _ _ ?_ (fun hH => ?_)
  · exact sp2
  clear hK K
  refine rdH 6 rfl (fun K hK => ?_)
  go_simp
  refine (vValues b bh lb.length rb Wd).mono ?_
  rintro x We ⟨zl2, zs2, rfl, c1, c2, g1, g2, hbe⟩
  have sp3 := sp2.below hbe
  have Q63 := Lib.hid (Q62.out.below hbe)
  have bw3 := Lib.hid (bw2.out.trans (hbe.mono bw2.out.size))
  have cs2 := Lib.hid (And.intro c1 (And.intro c2 (And.intro (Nat.le_trans szd.out g1) (Nat.le_trans szd.out g2))))
  have cs1 := Lib.hid (And.intro (cs1.out.1.below hbe) (And.intro (cs1.out.2.1.below hbe) cs1.out.2.2))
  have sze := Lib.hid (Nat.le_trans szd.out hbe.size)
  clear c1 c2 g1 g2 sp2 hbe Q62
  simp only
  refine hK.out _ _ ?_ (fun hH => ?_)
  · exact sp3
  clear hK K
  refine rdH 7 rfl (fun K hK => ?_)
  go_simp
  have hb7 : Below We.heap.size We (We.alloc (.cells #[seqs zl zs, seqs zl2 zs2] 81)) := (Below.refl _ We).alloc (Nat.le_refl _) _
  have c7 := Lib.hid (C2.new We 81 (seqs zl zs) (seqs zl2 zs2))
  have sp4 := sp3.below hb7
  have Q64 := Lib.hid (Q63.out.below hb7)
  have bw4 := Lib.hid (bw3.out.trans (hb7.mono bw3.out.size))
  have cs2 := Lib.hid (And.intro (cs2.out.1.below hb7) (And.intro (cs2.out.2.1.below hb7) cs2.out.2.2))
  have cs1 := Lib.hid (And.intro (cs1.out.1.below hb7) (And.intro (cs1.out.2.1.below hb7) cs1.out.2.2))
  have szf := Lib.hid (Nat.le_trans sze.out hb7.size)
  clear sp3 Q63
  refine hK.out _ _ ?_ (fun hH => ?_)
  · exact sp4
  clear hK K hb7
  generalize We.alloc (.cells #[seqs zl zs, seqs zl2 zs2] 81) = Wf at c7 sp4 Q64 bw4 cs1 cs2 szf hH ⊢
  generalize We.heap.size = g0 at c7 sze ⊢
  refine rdH 8 rfl (fun K hK => ?_)
  go_simp
  have HKE := Lib.hid (show keysOf [(112, #[.pointer (some ⟨zl, 0, none⟩), .pointer (some ⟨zs, 0, none⟩)], la.map Prod.fst), (112, #[.pointer (some ⟨zl2, 0, none⟩), .pointer (some ⟨zs2, 0, none⟩)], lb.map Prod.fst)] = la.map Prod.fst ++ lb.map Prod.fst from by simp [keysOf])
  have hF := vFrom (hs := hs) (wb := fun _ => true) (g0 := g0) (o0 := 0) (c0 := 2) (f0 := 102) (caps0 := #[]) (ss := [(112, #[.pointer (some ⟨zl, 0, none⟩), .pointer (some ⟨zs, 0, none⟩)], la.map Prod.fst), (112, #[.pointer (some ⟨zl2, 0, none⟩), .pointer (some ⟨zs2, 0, none⟩)], lb.map Prod.fst)]) Wf (HH.out.1.below bw4.out) HH.out.2.1 HH.out.2.2.1 HH.out.2.2.2.1 (HH.out.2.2.2.2.1.below bw4.out) HH.out.2.2.2.2.2.1 HH.out.2.2.2.2.2.2 (fun _ _ => rfl)
    (fun W M1 F1 k hk ha hp h1 h2 h3 => (or1 k W).mono fun e W' ⟨he, hbw⟩ => ⟨he, Kp.of_below hbw _, h1.below hbw⟩)
    (fun W hk i s hs0 => by
      have c := c7.out.kp hk (fun e => nfz.out g0 (by have := sze.out; omega) e)
      match i, hs0 with
      | 0, hs0 => simp only [List.getElem?_cons_zero, Option.some.injEq] at hs0; subst hs0; exact c.c0
      | 1, hs0 => simp only [List.getElem?_cons_succ, List.getElem?_cons_zero, Option.some.injEq] at hs0; subst hs0; exact c.c1)
    (fun s hs0 => by
      simp only [List.mem_cons, List.not_mem_nil, or_false] at hs0
      rcases hs0 with rfl | rfl
      · exact ⟨fun _ _ => rfl, fun k hk => by
        obtain ⟨p, hp, rfl⟩ := List.mem_map.1 hk
        exact HS.out.2.2.2.2.1 p hp, fun W M1 F1 hk ha hp => seq_of Wf _ _ la.length ra la (HH.out.1.below bw4.out) HH.out.2.2.2.1.zero HS.out.2.2.1 HS.out.1 (by have := HS.out.2.2.2.2.2.2; omega) cs1.out.1 cs1.out.2.1 ⟨fun hf => nfz.out _ (by have := cs1.out.2.2; omega) (.inl hf), fun hf => nfz.out _ (by have := cs1.out.2.2; omega) (.inl hf), fun e => nfz.out _ (by have := cs1.out.2.2; omega) (.inr e), fun e => nfz.out _ (by have := cs1.out.2.2; omega) (.inr e)⟩ W M1 F1 hk ha hp⟩
      · exact ⟨fun _ _ => rfl, fun k hk => by
        obtain ⟨p, hp, rfl⟩ := List.mem_map.1 hk
        exact HS.out.2.2.2.2.2.1 p hp, fun W M1 F1 hk ha hp => seq_of Wf _ _ lb.length rb lb (HH.out.1.below bw4.out) HH.out.2.2.2.1.zero HS.out.2.2.2.1 HS.out.2.1 (by have := HS.out.2.2.2.2.2.2; omega) cs2.out.1 cs2.out.2.1 ⟨fun hf => nfz.out _ (by have := cs2.out.2.2; omega) (.inl hf), fun hf => nfz.out _ (by have := cs2.out.2.2; omega) (.inl hf), fun e => nfz.out _ (by have := cs2.out.2.2; omega) (.inr e), fun e => nfz.out _ (by have := cs2.out.2.2; omega) (.inr e)⟩ W M1 F1 hk ha hp⟩) (by rw [HKE.out]; simp only [List.length_append, List.length_map]; have := HS.out.2.2.2.2.2.2; omega) (by simp) (by simp)
  rw [HKE.out] at hF
  refine hF.mono ?_
  clear hF
  rintro x Wg hx
  obtain ⟨N, n, er, rfl, hO⟩ : ∃ N n er : Int, x = .returned (.tuple #[.agg #[.int .i64 N, .int .i64 n], .int .i64 er]) ∧ SetOp Wf F b bh seed most hs M P (addAll hs (fun _ => true) (la.map Prod.fst ++ lb.map Prod.fst) []) (la.length + lb.length) N n er Wg := by
    rcases hx with ⟨n, M', F', rfl, hfr, hmp⟩ | ⟨M', F', rfl, hfl, hfr⟩
    · simp only [List.length_append, List.length_map] at hfr
      exact ⟨_, _, _, rfl, .inl ⟨n, M', F', ⟨rfl, rfl, rfl⟩, hfr, hmp⟩⟩
    · simp only [List.length_append, List.length_map] at hfr hfl
      exact ⟨_, _, _, rfl, .inr ⟨M', F', ⟨rfl, rfl, rfl⟩, hfl, hfr⟩⟩
  have sp5 := sp4.kp hO.kp (fun q e h => nfz.out q (by have := HZ.out; omega) h)
  have Q65 := Lib.hid (Q64.out.kp hO.kp (fun h => nfz.out z6 (by have := HZ.out; omega) h))
  have HO := Lib.hid hO
  clear hO sp4 Q64
  simp only
  refine hK.out _ _ ?_ (fun hH => ?_)
  · exact sp5
  clear hK K
  refine tkH ?_ 9 hH ?_ ?_; rotate_left
  · intro W' hS; go_simp; with_reducible rfl
  simp only [tkr]
  refine tkH ?_ 10 hH ?_ ?_; rotate_left
  · intro W' hS; go_simp; with_reducible rfl
  simp only [tkr]
  refine rdH 11 rfl (fun K hK => ?_)
  obtain ⟨r0, r1, r2, r3⟩ := Q65.out.all
  go_simp
  clear r0 r1 r2 r3
  have kz := kp2z Wg z6 (.int .i64 N) (.int .i64 n)
  have Q66 := Lib.hid ((Q65.out.set0 (.int .i64 N)).set1 (.int .i64 n))
  have sp6 := sp5.kp kz (fun q e h => by have := HZ.out; omega)
  have FIN := Lib.hid (HO.out.kpz bw4.out kz ⟨by have := HZ.out; omega, by have := HZ.out; have := szf.out; omega, fun hf => nfz.out z6 (by have := HZ.out; omega) (.inl hf), fun e => nfz.out z6 (by have := HZ.out; omega) (.inr e)⟩)
  clear kz HO sp5
  refine hK.out _ _ ?_ (fun hH => ?_)
  · exact sp6
  clear hK K Q65
  generalize World.setCell _ _ _ = Wh at sp6 Q66 FIN hH ⊢
  refine tkH ?_ 12 hH ?_ ?_; rotate_left
  · intro W' hS; go_simp; with_reducible rfl
  simp only [tkr]
  refine wpAnyH_done (by kernel_rfl) ?_ _
  refine NoPanic.normal ?_
  clear l0 l1 a0 a1 b0 b1 hH
  obtain ⟨r0, r1, _, _⟩ := Q66.out.all
  go_wp2_with fail
  exact bodyPost_ret (v := .tuple #[.agg #[.int .i64 N, .int .i64 n], .int .i64 er]) (by simp [results, Tryz.results25, go_sem, r0, r1]) rfl ⟨N, n, er, rfl, FIN.out⟩
set_option maxHeartbeats 4000000 in
theorem vAnd (w : World) (h : Ar w b most M F) (hm : most ≤ 1048576) (hP : ∀ j, P j ≤ 576460752303423488) (hb : Bk (most + 1) M [] P []) (hh : Hs w bh seed) (nbh : ¬ F bh) (hhs : ∀ q, OkK q → hs q = hashN seed q.1 q.2.1 q.2.2) (hra : Rt P ra) (hrb : Rt P rb) (hTa : Mp M hs ra la) (hTb : Mp M hs rb lb) (hka : ∀ q ∈ la, OkK q.1) (hkb : ∀ q ∈ lb, OkK q.1) (hn : la.length + lb.length ≤ 1000) :
    Calls Tryz.prog 26 #[land b bh, .agg #[.int .i64 (la.length : Nat), .int .i64 (ra : Nat)], .agg #[.int .i64 (lb.length : Nat), .int .i64 (rb : Nat)]] w fun e w' => ∃ N n er : Int, e = .returned (.tuple #[.agg #[.int .i64 N, .int .i64 n], .int .i64 er]) ∧ SetOp w F b bh seed most hs M P (addAll hs (fun k => hasB k lb) (la.map Prod.fst) []) la.length N n er w' := by
  have hbl := hh.lt
  have hFl : ∀ q, F q → q < w.heap.size := fun q hq => h.lt hq
  obtain ⟨o4, q6, hb0, hsz⟩ := O4.new w b bh ra rb la lb
  have HH := Lib.hid (And.intro h (And.intro hm (And.intro hP (And.intro hb (And.intro hh (And.intro nbh hhs))))))
  have HS := Lib.hid (And.intro hra (And.intro hrb (And.intro hTa (And.intro hTb (And.intro hka (And.intro hkb hn))))))
  clear h hm hP hb hh nbh hhs hra hrb hTa hTb hka hkb hn
  go_enter Tryz.func26, Tryz.ntmps26
  go_upto_region 1 with fail
  generalize ((((w.alloc (.cells #[ap b, .pointer (some ⟨bh, 0, none⟩)] 26)).alloc (.cells #[.int .i64 (la.length : Int), .int .i64 (ra : Int)] 54)).alloc (.cells #[.int .i64 (lb.length : Int), .int .i64 (rb : Int)] 54)).alloc (.cells #[.int .i64 0, .int .i64 0] 54)) = W1 at o4 q6 hb0 hsz ⊢
  obtain ⟨z6, hz6⟩ : ∃ z, z = w.heap.size + 1 + 1 + 1 := ⟨_, rfl⟩
  obtain ⟨z5, hz5⟩ : ∃ z, z = w.heap.size + 1 + 1 := ⟨_, rfl⟩
  obtain ⟨z4, hz4⟩ : ∃ z, z = w.heap.size + 1 := ⟨_, rfl⟩
  obtain ⟨z3, hz3⟩ : ∃ z, z = w.heap.size := ⟨_, rfl⟩
  rw [← hz5, ← hz4, ← hz3] at o4
  rw [← hz6] at q6
  rw [← hz6, ← hz5, ← hz4, ← hz3]
  have HZ := Lib.hid (show z3 = w.heap.size ∧ z4 = w.heap.size + 1 ∧ z5 = w.heap.size + 2 ∧ z6 = w.heap.size + 3 ∧ W1.heap.size = w.heap.size + 4 ∧ bh < w.heap.size ∧ ∀ q, F q → q < w.heap.size from ⟨hz3, by omega, by omega, by omega, by omega, hbl, hFl⟩)
  clear hz6 hz5 hz4 hz3 hsz hbl hFl
  have l0 : ∀ W', O4 W' z3 z4 z5 b bh la.length ra lb.length rb → W'.cell? ⟨z3, 0, none⟩ = some (ap b) := fun W' h => h.lb.c0
  have l1 : ∀ W', O4 W' z3 z4 z5 b bh la.length ra lb.length rb → W'.cell? ⟨z3, 1, none⟩ = some (.pointer (some ⟨bh, 0, none⟩)) := fun W' h => h.lb.c1
  have a0 : ∀ W', O4 W' z3 z4 z5 b bh la.length ra lb.length rb → W'.cell? ⟨z4, 0, none⟩ = some (.int .i64 (la.length : Int)) := fun W' h => h.sa.c0
  have a1 : ∀ W', O4 W' z3 z4 z5 b bh la.length ra lb.length rb → W'.cell? ⟨z4, 1, none⟩ = some (.int .i64 (ra : Int)) := fun W' h => h.sa.c1
  have b0 : ∀ W', O4 W' z3 z4 z5 b bh la.length ra lb.length rb → W'.cell? ⟨z5, 0, none⟩ = some (.int .i64 (lb.length : Int)) := fun W' h => h.sb.c0
  have b1 : ∀ W', O4 W' z3 z4 z5 b bh la.length ra lb.length rb → W'.cell? ⟨z5, 1, none⟩ = some (.int .i64 (rb : Int)) := fun W' h => h.sb.c1
  refine wp_region_noPanic ?_
  have hd : Below W1.heap.size W1 W1.drew := (Below.refl _ W1).drew
  have sp := o4.below hd
  have bw := Lib.hid (hb0.trans (hd.mono hb0.size))
  have Q6 := Lib.hid (q6.below hd)
  have nfz := Lib.hid (show ∀ z, w.heap.size ≤ z → ¬ (F z ∨ z = bh) from fun z hz h => h.elim (fun hf => by have := HZ.out.2.2.2.2.2.2 z hf; omega) (fun e => by have := HZ.out; omega))
  refine wp_region_held_drew (S := fun W' => O4 W' z3 z4 z5 b bh la.length ra lb.length rb) (by kernel_rfl) sp (fun hH => ?_)
  have szc := Lib.hid (show w.heap.size + 4 ≤ W1.drew.heap.size from by have := HZ.out; have := hd.size; omega)
  clear hd hb0 o4 q6
  generalize W1.drew = Wc at sp bw szc Q6 hH ⊢
  refine tkH ?_ 0 hH ?_ ?_; rotate_left
  · intro W' hS; go_simp; with_reducible rfl
  simp only [tkr]
  refine tkH ?_ 1 hH ?_ ?_; rotate_left
  · intro W' hS; go_simp; with_reducible rfl
  simp only [tkr]
  refine tkH ?_ 2 hH ?_ ?_; rotate_left
  · intro W' hS; go_simp; with_reducible rfl
  simp only [tkr]
  refine tkH ?_ 3 hH ?_ ?_; rotate_left
  · intro W' hS; go_simp; with_reducible rfl
  simp only [tkr]
  refine rdH 4 rfl (fun K hK => ?_)
  go_simp
  refine (vValues b bh la.length ra Wc).mono ?_
  rintro x Wd ⟨zl, zs, rfl, c1, c2, g1, g2, hbd⟩
  have sp2 := sp.below hbd
  have Q62 := Lib.hid (Q6.out.below hbd)
  have bw2 := Lib.hid (bw.out.trans (hbd.mono bw.out.size))
  have cs1 := Lib.hid (And.intro c1 (And.intro c2 (And.intro (Nat.le_trans szc.out g1) (Nat.le_trans szc.out g2))))
  have szd := Lib.hid (Nat.le_trans szc.out hbd.size)
  clear c1 c2 g1 g2 sp Q6 hbd
  simp only
  refine hK.out _ _ ?_ (fun hH => ?_)
  · exact sp2
  clear hK K
  refine rdH 5 rfl (fun K hK => ?_)
  go_simp
  have hb7 : Below Wd.heap.size Wd (Wd.alloc (.cells #[seqs zl zs] 81)) := (Below.refl _ Wd).alloc (Nat.le_refl _) _
  have c7 := Lib.hid (C1.new Wd 81 (seqs zl zs))
  have sp4 := sp2.below hb7
  have Q64 := Lib.hid (Q62.out.below hb7)
  have bw4 := Lib.hid (bw2.out.trans (hb7.mono bw2.out.size))
  have cs1 := Lib.hid (And.intro (cs1.out.1.below hb7) (And.intro (cs1.out.2.1.below hb7) cs1.out.2.2))
  have szf := Lib.hid (Nat.le_trans szd.out hb7.size)
  have sze := szd
  clear sp2 Q62 szd
  refine hK.out _ _ ?_ (fun hH => ?_)
  · exact sp4
  clear hK K hb7
  generalize Wd.alloc (.cells #[seqs zl zs] 81) = Wf at c7 sp4 Q64 bw4 cs1 szf hH ⊢
  generalize Wd.heap.size = g0 at c7 sze ⊢
  refine rdH 6 rfl (fun K hK => ?_)
  go_simp
  have PRS := Lib.hid (show ∀ M1, Keeps P M M1 → Mp M1 hs rb lb from fun M1 hp => HS.out.2.2.2.1.pres HH.out.2.2.2.1.zero (fun h0 => by
    rcases HS.out.2.1 with e | e
    · exact absurd e h0
    · exact hp rb h0 e))
  have HKE := Lib.hid (show keysOf [(112, #[.pointer (some ⟨zl, 0, none⟩), .pointer (some ⟨zs, 0, none⟩)], la.map Prod.fst)] = la.map Prod.fst from by simp [keysOf])
  have hF := vFrom (hs := hs) (wb := fun k => hasB k lb) (g0 := g0) (o0 := 0) (c0 := 1) (f0 := 103) (caps0 := #[.pointer (some ⟨z3, 0, none⟩), .pointer (some ⟨z5, 0, none⟩)]) (ss := [(112, #[.pointer (some ⟨zl, 0, none⟩), .pointer (some ⟨zs, 0, none⟩)], la.map Prod.fst)]) Wf (HH.out.1.below bw4.out) HH.out.2.1 HH.out.2.2.1 HH.out.2.2.2.1 (HH.out.2.2.2.2.1.below bw4.out) HH.out.2.2.2.2.2.1 HH.out.2.2.2.2.2.2 (fun _ _ => rfl)
    (fun W M1 F1 k hk ha hp h1 h2 h3 => and1 z3 z5 lb.length rb lb k W ha ha.zero (PRS.out M1 hp) h1 h2 HH.out.2.2.2.2.2.2 h3 (by have := HS.out.2.2.2.2.2.2; omega) (sp4.lb.kp hk (fun e => nfz.out z3 (by have := HZ.out; omega) e)) (sp4.sb.kp hk (fun e => nfz.out z5 (by have := HZ.out; omega) e)))
    (fun W hk i s hs0 => by
      have c := c7.out.kp hk (fun e => nfz.out g0 (by have := sze.out; omega) e)
      match i, hs0 with
      | 0, hs0 => simp only [List.getElem?_cons_zero, Option.some.injEq] at hs0; subst hs0; exact c.c0)
    (fun s hs0 => by
      simp only [List.mem_cons, List.not_mem_nil, or_false] at hs0
      subst hs0
      exact ⟨fun _ _ => rfl, fun k hk => by
        obtain ⟨p, hp, rfl⟩ := List.mem_map.1 hk
        exact HS.out.2.2.2.2.1 p hp, fun W M1 F1 hk ha hp => seq_of Wf _ _ la.length ra la (HH.out.1.below bw4.out) HH.out.2.2.2.1.zero HS.out.2.2.1 HS.out.1 (by have := HS.out.2.2.2.2.2.2; omega) cs1.out.1 cs1.out.2.1 ⟨fun hf => nfz.out _ (by have := cs1.out.2.2; omega) (.inl hf), fun hf => nfz.out _ (by have := cs1.out.2.2; omega) (.inl hf), fun e => nfz.out _ (by have := cs1.out.2.2; omega) (.inr e), fun e => nfz.out _ (by have := cs1.out.2.2; omega) (.inr e)⟩ W M1 F1 hk ha hp⟩) (by rw [HKE.out]; simp only [List.length_map]; have := HS.out.2.2.2.2.2.2; omega) (by simp) (by simp)
  rw [HKE.out] at hF
  refine hF.mono ?_
  clear hF
  rintro x Wg hx
  obtain ⟨N, n, er, rfl, hO⟩ : ∃ N n er : Int, x = .returned (.tuple #[.agg #[.int .i64 N, .int .i64 n], .int .i64 er]) ∧ SetOp Wf F b bh seed most hs M P (addAll hs (fun k => hasB k lb) (la.map Prod.fst) []) la.length N n er Wg := by
    rcases hx with ⟨n, M', F', rfl, hfr, hmp⟩ | ⟨M', F', rfl, hfl, hfr⟩
    · simp only [List.length_map] at hfr
      exact ⟨_, _, _, rfl, .inl ⟨n, M', F', ⟨rfl, rfl, rfl⟩, hfr, hmp⟩⟩
    · simp only [List.length_map] at hfr hfl
      exact ⟨_, _, _, rfl, .inr ⟨M', F', ⟨rfl, rfl, rfl⟩, hfl, hfr⟩⟩
  have sp5 := sp4.kp hO.kp (fun q e h => nfz.out q (by have := HZ.out; omega) h)
  have Q65 := Lib.hid (Q64.out.kp hO.kp (fun h => nfz.out z6 (by have := HZ.out; omega) h))
  have HO := Lib.hid hO
  clear hO sp4 Q64
  simp only
  refine hK.out _ _ ?_ (fun hH => ?_)
  · exact sp5
  clear hK K
  refine tkH ?_ 7 hH ?_ ?_; rotate_left
  · intro W' hS; go_simp; with_reducible rfl
  simp only [tkr]
  refine tkH ?_ 8 hH ?_ ?_; rotate_left
  · intro W' hS; go_simp; with_reducible rfl
  simp only [tkr]
  refine rdH 9 rfl (fun K hK => ?_)
  obtain ⟨r0, r1, r2, r3⟩ := Q65.out.all
  go_simp
  clear r0 r1 r2 r3
  have kz := kp2z Wg z6 (.int .i64 N) (.int .i64 n)
  have Q66 := Lib.hid ((Q65.out.set0 (.int .i64 N)).set1 (.int .i64 n))
  have sp6 := sp5.kp kz (fun q e h => by have := HZ.out; omega)
  have FIN := Lib.hid (HO.out.kpz bw4.out kz ⟨by have := HZ.out; omega, by have := HZ.out; have := szf.out; omega, fun hf => nfz.out z6 (by have := HZ.out; omega) (.inl hf), fun e => nfz.out z6 (by have := HZ.out; omega) (.inr e)⟩)
  clear kz HO sp5
  refine hK.out _ _ ?_ (fun hH => ?_)
  · exact sp6
  clear hK K Q65
  generalize World.setCell _ _ _ = Wh at sp6 Q66 FIN hH ⊢
  refine tkH ?_ 10 hH ?_ ?_; rotate_left
  · intro W' hS; go_simp; with_reducible rfl
  simp only [tkr]
  refine wpAnyH_done (by kernel_rfl) ?_ _
  refine NoPanic.normal ?_
  clear l0 l1 a0 a1 b0 b1 hH
  obtain ⟨r0, r1, _, _⟩ := Q66.out.all
  go_wp2_with fail
  exact bodyPost_ret (v := .tuple #[.agg #[.int .i64 N, .int .i64 n], .int .i64 er]) (by simp [results, Tryz.results26, go_sem, r0, r1]) rfl ⟨N, n, er, rfl, FIN.out⟩
set_option maxHeartbeats 4000000 in
theorem vMinus (w : World) (h : Ar w b most M F) (hm : most ≤ 1048576) (hP : ∀ j, P j ≤ 576460752303423488) (hb : Bk (most + 1) M [] P []) (hh : Hs w bh seed) (nbh : ¬ F bh) (hhs : ∀ q, OkK q → hs q = hashN seed q.1 q.2.1 q.2.2) (hra : Rt P ra) (hrb : Rt P rb) (hTa : Mp M hs ra la) (hTb : Mp M hs rb lb) (hka : ∀ q ∈ la, OkK q.1) (hkb : ∀ q ∈ lb, OkK q.1) (hn : la.length + lb.length ≤ 1000) :
    Calls Tryz.prog 27 #[land b bh, .agg #[.int .i64 (la.length : Nat), .int .i64 (ra : Nat)], .agg #[.int .i64 (lb.length : Nat), .int .i64 (rb : Nat)]] w fun e w' => ∃ N n er : Int, e = .returned (.tuple #[.agg #[.int .i64 N, .int .i64 n], .int .i64 er]) ∧ SetOp w F b bh seed most hs M P (addAll hs (fun k => !hasB k lb) (la.map Prod.fst) []) la.length N n er w' := by
  have hbl := hh.lt
  have hFl : ∀ q, F q → q < w.heap.size := fun q hq => h.lt hq
  obtain ⟨o4, q6, hb0, hsz⟩ := O4.new w b bh ra rb la lb
  have HH := Lib.hid (And.intro h (And.intro hm (And.intro hP (And.intro hb (And.intro hh (And.intro nbh hhs))))))
  have HS := Lib.hid (And.intro hra (And.intro hrb (And.intro hTa (And.intro hTb (And.intro hka (And.intro hkb hn))))))
  clear h hm hP hb hh nbh hhs hra hrb hTa hTb hka hkb hn
  go_enter Tryz.func27, Tryz.ntmps27
  go_upto_region 1 with fail
  generalize ((((w.alloc (.cells #[ap b, .pointer (some ⟨bh, 0, none⟩)] 26)).alloc (.cells #[.int .i64 (la.length : Int), .int .i64 (ra : Int)] 54)).alloc (.cells #[.int .i64 (lb.length : Int), .int .i64 (rb : Int)] 54)).alloc (.cells #[.int .i64 0, .int .i64 0] 54)) = W1 at o4 q6 hb0 hsz ⊢
  obtain ⟨z6, hz6⟩ : ∃ z, z = w.heap.size + 1 + 1 + 1 := ⟨_, rfl⟩
  obtain ⟨z5, hz5⟩ : ∃ z, z = w.heap.size + 1 + 1 := ⟨_, rfl⟩
  obtain ⟨z4, hz4⟩ : ∃ z, z = w.heap.size + 1 := ⟨_, rfl⟩
  obtain ⟨z3, hz3⟩ : ∃ z, z = w.heap.size := ⟨_, rfl⟩
  rw [← hz5, ← hz4, ← hz3] at o4
  rw [← hz6] at q6
  rw [← hz6, ← hz5, ← hz4, ← hz3]
  have HZ := Lib.hid (show z3 = w.heap.size ∧ z4 = w.heap.size + 1 ∧ z5 = w.heap.size + 2 ∧ z6 = w.heap.size + 3 ∧ W1.heap.size = w.heap.size + 4 ∧ bh < w.heap.size ∧ ∀ q, F q → q < w.heap.size from ⟨hz3, by omega, by omega, by omega, by omega, hbl, hFl⟩)
  clear hz6 hz5 hz4 hz3 hsz hbl hFl
  have l0 : ∀ W', O4 W' z3 z4 z5 b bh la.length ra lb.length rb → W'.cell? ⟨z3, 0, none⟩ = some (ap b) := fun W' h => h.lb.c0
  have l1 : ∀ W', O4 W' z3 z4 z5 b bh la.length ra lb.length rb → W'.cell? ⟨z3, 1, none⟩ = some (.pointer (some ⟨bh, 0, none⟩)) := fun W' h => h.lb.c1
  have a0 : ∀ W', O4 W' z3 z4 z5 b bh la.length ra lb.length rb → W'.cell? ⟨z4, 0, none⟩ = some (.int .i64 (la.length : Int)) := fun W' h => h.sa.c0
  have a1 : ∀ W', O4 W' z3 z4 z5 b bh la.length ra lb.length rb → W'.cell? ⟨z4, 1, none⟩ = some (.int .i64 (ra : Int)) := fun W' h => h.sa.c1
  have b0 : ∀ W', O4 W' z3 z4 z5 b bh la.length ra lb.length rb → W'.cell? ⟨z5, 0, none⟩ = some (.int .i64 (lb.length : Int)) := fun W' h => h.sb.c0
  have b1 : ∀ W', O4 W' z3 z4 z5 b bh la.length ra lb.length rb → W'.cell? ⟨z5, 1, none⟩ = some (.int .i64 (rb : Int)) := fun W' h => h.sb.c1
  refine wp_region_noPanic ?_
  have hd : Below W1.heap.size W1 W1.drew := (Below.refl _ W1).drew
  have sp := o4.below hd
  have bw := Lib.hid (hb0.trans (hd.mono hb0.size))
  have Q6 := Lib.hid (q6.below hd)
  have nfz := Lib.hid (show ∀ z, w.heap.size ≤ z → ¬ (F z ∨ z = bh) from fun z hz h => h.elim (fun hf => by have := HZ.out.2.2.2.2.2.2 z hf; omega) (fun e => by have := HZ.out; omega))
  refine wp_region_held_drew (S := fun W' => O4 W' z3 z4 z5 b bh la.length ra lb.length rb) (by kernel_rfl) sp (fun hH => ?_)
  have szc := Lib.hid (show w.heap.size + 4 ≤ W1.drew.heap.size from by have := HZ.out; have := hd.size; omega)
  clear hd hb0 o4 q6
  generalize W1.drew = Wc at sp bw szc Q6 hH ⊢
  refine tkH ?_ 0 hH ?_ ?_; rotate_left
  · intro W' hS; go_simp; with_reducible rfl
  simp only [tkr]
  refine tkH ?_ 1 hH ?_ ?_; rotate_left
  · intro W' hS; go_simp; with_reducible rfl
  simp only [tkr]
  refine tkH ?_ 2 hH ?_ ?_; rotate_left
  · intro W' hS; go_simp; with_reducible rfl
  simp only [tkr]
  refine tkH ?_ 3 hH ?_ ?_; rotate_left
  · intro W' hS; go_simp; with_reducible rfl
  simp only [tkr]
  refine rdH 4 rfl (fun K hK => ?_)
  go_simp
  refine (vValues b bh la.length ra Wc).mono ?_
  rintro x Wd ⟨zl, zs, rfl, c1, c2, g1, g2, hbd⟩
  have sp2 := sp.below hbd
  have Q62 := Lib.hid (Q6.out.below hbd)
  have bw2 := Lib.hid (bw.out.trans (hbd.mono bw.out.size))
  have cs1 := Lib.hid (And.intro c1 (And.intro c2 (And.intro (Nat.le_trans szc.out g1) (Nat.le_trans szc.out g2))))
  have szd := Lib.hid (Nat.le_trans szc.out hbd.size)
  clear c1 c2 g1 g2 sp Q6 hbd
  simp only
  refine hK.out _ _ ?_ (fun hH => ?_)
  · exact sp2
  clear hK K
  refine rdH 5 rfl (fun K hK => ?_)
  go_simp
  have hb7 : Below Wd.heap.size Wd (Wd.alloc (.cells #[seqs zl zs] 81)) := (Below.refl _ Wd).alloc (Nat.le_refl _) _
  have c7 := Lib.hid (C1.new Wd 81 (seqs zl zs))
  have sp4 := sp2.below hb7
  have Q64 := Lib.hid (Q62.out.below hb7)
  have bw4 := Lib.hid (bw2.out.trans (hb7.mono bw2.out.size))
  have cs1 := Lib.hid (And.intro (cs1.out.1.below hb7) (And.intro (cs1.out.2.1.below hb7) cs1.out.2.2))
  have szf := Lib.hid (Nat.le_trans szd.out hb7.size)
  have sze := szd
  clear sp2 Q62 szd
  refine hK.out _ _ ?_ (fun hH => ?_)
  · exact sp4
  clear hK K hb7
  generalize Wd.alloc (.cells #[seqs zl zs] 81) = Wf at c7 sp4 Q64 bw4 cs1 szf hH ⊢
  generalize Wd.heap.size = g0 at c7 sze ⊢
  refine rdH 6 rfl (fun K hK => ?_)
  go_simp
  have PRS := Lib.hid (show ∀ M1, Keeps P M M1 → Mp M1 hs rb lb from fun M1 hp => HS.out.2.2.2.1.pres HH.out.2.2.2.1.zero (fun h0 => by
    rcases HS.out.2.1 with e | e
    · exact absurd e h0
    · exact hp rb h0 e))
  have HKE := Lib.hid (show keysOf [(112, #[.pointer (some ⟨zl, 0, none⟩), .pointer (some ⟨zs, 0, none⟩)], la.map Prod.fst)] = la.map Prod.fst from by simp [keysOf])
  have hF := vFrom (hs := hs) (wb := fun k => !hasB k lb) (g0 := g0) (o0 := 0) (c0 := 1) (f0 := 104) (caps0 := #[.pointer (some ⟨z3, 0, none⟩), .pointer (some ⟨z5, 0, none⟩)]) (ss := [(112, #[.pointer (some ⟨zl, 0, none⟩), .pointer (some ⟨zs, 0, none⟩)], la.map Prod.fst)]) Wf (HH.out.1.below bw4.out) HH.out.2.1 HH.out.2.2.1 HH.out.2.2.2.1 (HH.out.2.2.2.2.1.below bw4.out) HH.out.2.2.2.2.2.1 HH.out.2.2.2.2.2.2 (fun _ _ => rfl)
    (fun W M1 F1 k hk ha hp h1 h2 h3 => minus1 z3 z5 lb.length rb lb k W ha ha.zero (PRS.out M1 hp) h1 h2 HH.out.2.2.2.2.2.2 h3 (by have := HS.out.2.2.2.2.2.2; omega) (sp4.lb.kp hk (fun e => nfz.out z3 (by have := HZ.out; omega) e)) (sp4.sb.kp hk (fun e => nfz.out z5 (by have := HZ.out; omega) e)))
    (fun W hk i s hs0 => by
      have c := c7.out.kp hk (fun e => nfz.out g0 (by have := sze.out; omega) e)
      match i, hs0 with
      | 0, hs0 => simp only [List.getElem?_cons_zero, Option.some.injEq] at hs0; subst hs0; exact c.c0)
    (fun s hs0 => by
      simp only [List.mem_cons, List.not_mem_nil, or_false] at hs0
      subst hs0
      exact ⟨fun _ _ => rfl, fun k hk => by
        obtain ⟨p, hp, rfl⟩ := List.mem_map.1 hk
        exact HS.out.2.2.2.2.1 p hp, fun W M1 F1 hk ha hp => seq_of Wf _ _ la.length ra la (HH.out.1.below bw4.out) HH.out.2.2.2.1.zero HS.out.2.2.1 HS.out.1 (by have := HS.out.2.2.2.2.2.2; omega) cs1.out.1 cs1.out.2.1 ⟨fun hf => nfz.out _ (by have := cs1.out.2.2; omega) (.inl hf), fun hf => nfz.out _ (by have := cs1.out.2.2; omega) (.inl hf), fun e => nfz.out _ (by have := cs1.out.2.2; omega) (.inr e), fun e => nfz.out _ (by have := cs1.out.2.2; omega) (.inr e)⟩ W M1 F1 hk ha hp⟩) (by rw [HKE.out]; simp only [List.length_map]; have := HS.out.2.2.2.2.2.2; omega) (by simp) (by simp)
  rw [HKE.out] at hF
  refine hF.mono ?_
  clear hF
  rintro x Wg hx
  obtain ⟨N, n, er, rfl, hO⟩ : ∃ N n er : Int, x = .returned (.tuple #[.agg #[.int .i64 N, .int .i64 n], .int .i64 er]) ∧ SetOp Wf F b bh seed most hs M P (addAll hs (fun k => !hasB k lb) (la.map Prod.fst) []) la.length N n er Wg := by
    rcases hx with ⟨n, M', F', rfl, hfr, hmp⟩ | ⟨M', F', rfl, hfl, hfr⟩
    · simp only [List.length_map] at hfr
      exact ⟨_, _, _, rfl, .inl ⟨n, M', F', ⟨rfl, rfl, rfl⟩, hfr, hmp⟩⟩
    · simp only [List.length_map] at hfr hfl
      exact ⟨_, _, _, rfl, .inr ⟨M', F', ⟨rfl, rfl, rfl⟩, hfl, hfr⟩⟩
  have sp5 := sp4.kp hO.kp (fun q e h => nfz.out q (by have := HZ.out; omega) h)
  have Q65 := Lib.hid (Q64.out.kp hO.kp (fun h => nfz.out z6 (by have := HZ.out; omega) h))
  have HO := Lib.hid hO
  clear hO sp4 Q64
  simp only
  refine hK.out _ _ ?_ (fun hH => ?_)
  · exact sp5
  clear hK K
  refine tkH ?_ 7 hH ?_ ?_; rotate_left
  · intro W' hS; go_simp; with_reducible rfl
  simp only [tkr]
  refine tkH ?_ 8 hH ?_ ?_; rotate_left
  · intro W' hS; go_simp; with_reducible rfl
  simp only [tkr]
  refine rdH 9 rfl (fun K hK => ?_)
  obtain ⟨r0, r1, r2, r3⟩ := Q65.out.all
  go_simp
  clear r0 r1 r2 r3
  have kz := kp2z Wg z6 (.int .i64 N) (.int .i64 n)
  have Q66 := Lib.hid ((Q65.out.set0 (.int .i64 N)).set1 (.int .i64 n))
  have sp6 := sp5.kp kz (fun q e h => by have := HZ.out; omega)
  have FIN := Lib.hid (HO.out.kpz bw4.out kz ⟨by have := HZ.out; omega, by have := HZ.out; have := szf.out; omega, fun hf => nfz.out z6 (by have := HZ.out; omega) (.inl hf), fun e => nfz.out z6 (by have := HZ.out; omega) (.inr e)⟩)
  clear kz HO sp5
  refine hK.out _ _ ?_ (fun hH => ?_)
  · exact sp6
  clear hK K Q65
  generalize World.setCell _ _ _ = Wh at sp6 Q66 FIN hH ⊢
  refine tkH ?_ 10 hH ?_ ?_; rotate_left
  · intro W' hS; go_simp; with_reducible rfl
  simp only [tkr]
  refine wpAnyH_done (by kernel_rfl) ?_ _
  refine NoPanic.normal ?_
  clear l0 l1 a0 a1 b0 b1 hH
  obtain ⟨r0, r1, _, _⟩ := Q66.out.all
  go_wp2_with fail
  exact bodyPost_ret (v := .tuple #[.agg #[.int .i64 N, .int .i64 n], .int .i64 er]) (by simp [results, Tryz.results27, go_sem, r0, r1]) rfl ⟨N, n, er, rfl, FIN.out⟩
end
end Go.Proofs.YtdddhmipifkepaaGreat

namespace Go.Proofs.YtdddhmipifkepaaGreat
set_option maxRecDepth 100000
set_option linter.unusedSimpArgs false
set_option linter.unusedVariables false
open Go.RowKit
set_option maxHeartbeats 1600000 in
theorem lof10 (k : Ky) (w : World) : Calls Tryz.prog 101 #[vv k.1 k.2.1 k.2.2] w fun e w' => e = .returned (vv k.1 k.2.1 k.2.2) ∧ Below w.heap.size w w' := by
  go_enter Tryz.func101, Tryz.ntmps101
  go_wp2_with fail
  refine bodyPost_ret (v := vv k.1 k.2.1 k.2.2) (by simp [results, Tryz.results101, go_sem, vv]) rfl ⟨rfl, ?_⟩
  exact ((Below.refl _ w).alloc (Nat.le_refl _) _).alloc (by simp) _
section
theorem lland10 (seed : Nat) (w : World) :
    Calls Tryz.prog 23 #[.int .u64 seed] w fun e w' => ∃ b bh, e = .returned (land b bh) ∧ Ar w' b 16384 (fun _ => none) (fun k => k = b) ∧ Hs w' bh seed ∧ b ≠ bh ∧ w.heap.size ≤ b ∧ w.heap.size ≤ bh ∧ Below w.heap.size w w' := by
  have HN := Lib.hid (anew 16384 (w.alloc (.cells #[.pointer none, .pointer none] 26)) (by decide) (by decide))
  have hb : Below w.heap.size w (w.alloc (.cells #[.pointer none, .pointer none] 26)) := (Below.refl _ w).alloc (Nat.le_refl _) _
  have q4 := C2.new w 26 (.pointer none) (.pointer none)
  have hsz : (w.alloc (.cells #[.pointer none, .pointer none] 26)).heap.size = w.heap.size + 1 := by simp
  have HX := Lib.hid (And.intro q4 (And.intro hb hsz))
  clear hb q4 hsz
  go_enter Tryz.func23, Tryz.ntmps23
  go_wp2_with fail
  refine HN.out.mono ?_
  rintro e w1 ⟨rfl, ha, hb1⟩
  have H1 := Lib.hid (And.intro ha hb1)
  clear ha hb1
  go_wp2_with fail
  refine (hnew seed w1).mono ?_
  rintro e w2 ⟨rfl, hh, hg⟩
  have hz := HX.out.2.2
  have hs1 := H1.out.2.size
  have q4 := (HX.out.1.below H1.out.2).below hg.below
  obtain ⟨r0, r1, g0, g1⟩ := q4.all
  have FIN := Lib.hid (fun w9 (h9 : Kp (fun q => q = w.heap.size) w2 w9) => (show Ar w9 (w.heap.size + 1) 16384 (fun _ => none) (fun k => k = w.heap.size + 1) ∧ Hs w9 w1.heap.size seed ∧ w.heap.size + 1 ≠ w1.heap.size ∧ w.heap.size ≤ w.heap.size + 1 ∧ w.heap.size ≤ w1.heap.size ∧ Below w.heap.size w w9 from by
    have ha := H1.out.1
    rw [hz] at ha
    have hbl := ha.blt
    exact ⟨(ha.below hg.below).kp h9 (fun q e e2 => by omega), hh.kp h9 (by omega), by omega, by omega, by omega, below_kp ((HX.out.2.1.trans (H1.out.2.mono HX.out.2.1.size)).trans (hg.below.mono (by omega))) h9 (fun q e => by omega)⟩))
  clear q4 hh hg hz hs1
  go_wp2_with fail
  refine bodyPost_ret (v := land (w.heap.size + 1) w1.heap.size) (by simp [results, Tryz.results23, go_sem, r0, r1]) rfl ⟨_, _, rfl, FIN.out _ ?_⟩
  repeat first
    | with_reducible exact Kp.refl _ _
    | with_reducible refine Kp.setCell ?_ (by simp) _
end
def ok10 (k : Ky) : Bool := rightB k.1 k.2.1 k.2.2 && decide (k.2.2.size ≤ 60)
def right10 (l : List Ky) : Bool := l.all ok10 && decide (l.length ≤ 120)
theorem ok10_ok {k : Ky} (h : ok10 k = true) (hk : 0 ≤ k.1 ∧ k.1 ≤ 255) : OkK k := by
  unfold ok10 at h
  rw [Bool.and_eq_true] at h
  have := right_small h.1
  exact ⟨hk.1, hk.2, by omega⟩
section
set_option maxHeartbeats 4000000 in
theorem lright (A : Option Addr) (l : List Ky) (c : Nat) (w : World) (h : Lst w A l) (hl : l.length ≤ 140737488355328) :
    Calls Tryz.prog 22 #[.slice A l.length c] w fun e w' => e = .returned (.bool (right10 l)) ∧ Below w.heap.size w w' := by
  have HL := Lib.hid h
  have HLL := Lib.hid hl
  clear h
  go_enter Tryz.func22, Tryz.ntmps22
  go_wp2_with fail
  go_loopg [4, 7] l.length (fun c' _ i7 wq => ∃ j : Nat, j + c' = l.length ∧ i7 = .int .i64 (j : Int) ∧ (∀ a ∈ l.take j, ok10 a = true) ∧ Below w.heap.size w wq)
  case atStart => exact ⟨0, by omega, rfl, by simp, Below.refl _ _⟩
  case round =>
    obtain ⟨j, hj, rfl, hall, hb⟩ := hrel
    have HB := Lib.hid hb
    have HAL := Lib.hid hall
    clear hb hall
    by_cases h1 : j < l.length
    · obtain ⟨k, hk⟩ : ∃ k, l[j]? = some k := ⟨_, List.getElem?_eq_getElem h1⟩
      obtain ⟨g, o, rfl, hg, c0, c1, c2⟩ := (HL.out.below HB.out).at hk
      have y1 : (0 : Int) ≤ (j : Int) := by omega
      have y2 : (j : Int) < (l.length : Int) := by omega
      have HK := Lib.hid hk
      have HJ := Lib.hid (And.intro hj h1)
      have HNO := Lib.hid (show ok10 k = false → right10 l = false from fun e => by
        have : l.all ok10 = false := by
          rw [List.all_eq_false]
          exact ⟨k, List.mem_of_getElem? HK.out, by rw [e]; decide⟩
        unfold right10
        rw [this, Bool.false_and])
      clear hk hg hj h1
      go_upto_region 4 with fail
      have KB := Lib.hid (C3.new wr 36 (.int .u8 k.1) (.int .i64 k.2.1) (.string k.2.2))
      have HB4 := Lib.hid (HB.out.alloc HB.out.size (.cells #[.int .u8 k.1, .int .i64 k.2.1, .string k.2.2] 36))
      clear c0 c1 c2 HB
      generalize wr.alloc (.cells #[.int .u8 k.1, .int .i64 k.2.1, .string k.2.2] 36) = w4 at KB HB4 ⊢
      generalize wr.heap.size = z4 at KB ⊢
      obtain ⟨c0, c1, c2, _⟩ := KB.out.all
      by_cases h60 : (60 : Int) < (k.2.2.size : Int)
      · have HF := Lib.hid (HNO.out (by unfold ok10; rw [decide_eq_false (by omega), Bool.and_false]))
        go_wp2_with fail
        go_ret
        exact ⟨ret_bool HF.out.symm, HB4.out⟩
      · have H60 := Lib.hid h60
        go_wp2_with fail
        refine (lof10 k w4).mono ?_
        rintro e w5 ⟨rfl, hb5⟩
        have HB5 := Lib.hid (HB4.out.trans (hb5.mono HB4.out.size))
        clear hb5 c0 c1 c2
        go_wp2_with fail
        refine (ref_right k.1 k.2.1 k.2.2 w5).mono ?_
        rintro e w6 ⟨rfl, g6⟩
        have HB6 := Lib.hid (HB5.out.trans (g6.below.mono HB5.out.size))
        clear g6
        cases hr : rightB k.1 k.2.1 k.2.2
        · have HF := Lib.hid (HNO.out (by unfold ok10; rw [hr, Bool.false_and]))
          clear hr
          go_wp2_with fail
          go_ret
          exact ⟨ret_bool HF.out.symm, HB6.out⟩
        · have HY := Lib.hid (show ok10 k = true from by unfold ok10; rw [hr, decide_eq_true (by have := H60.out; omega), Bool.true_and])
          clear hr
          go_wp2_with fail
          go_roundg (l.length - (j + 1))
          case measure => have := HJ.out; have := HLL.out; omega
          case rel => exact ⟨j + 1, by have := HJ.out; omega, by go_num, fun a ha => by
            rw [List.take_add_one, HK.out, Option.toList_some, List.mem_append] at ha
            rcases ha with ha | ha
            · exact HAL.out a ha
            · rw [List.mem_singleton.1 ha]; exact HY.out, HB6.out⟩
    · obtain rfl : j = l.length := by omega
      have HR := Lib.hid (show right10 l = decide ((l.length : Int) ≤ 120) from by
        have : l.all ok10 = true := by rw [List.all_eq_true]; intro x hx; exact HAL.out x (by rw [List.take_length]; exact hx)
        unfold right10
        rw [this, Bool.true_and]
        congr 1
        exact propext (by omega))
      go_wp2_with fail
      go_ret
      exact ⟨ret_bool HR.out.symm, HB.out⟩
end
end Go.Proofs.YtdddhmipifkepaaGreat

/- Several texts in one. -/
import Derived.Test.YtghbbpbhbinioaaGreatMr20
namespace Go.Proofs.YtghbbpbhbinioaaGreat
set_option maxRecDepth 100000
set_option linter.unusedSimpArgs false
set_option linter.unusedVariables false
open Go.RowKit Go.Shelf
attribute [local go_sem] Oper.semAt_some
section
variable {n0 b bh most root lp : Nat} {M0 : Cells} {J Jx : Nat → World → Prop} {xs : List Pr}
set_option maxHeartbeats 8000000 in
theorem vvisit_cell11 (R : Rounds11 n0 b most M0 root lp J Jx xs) (i s m0 m1 m2 x y : Nat) (lo hi : Option Addr) (lx ly : List Pr) (p : Pr) (A : World)
    (hRd : ∀ W, Below A.heap.size A W → Calls Tryz.prog 77 #[land b bh, plagg i lo hi s] W fun e W' => ∃ nd : Nv, e = .returned (.tuple #[nagg nd, .bool true]) ∧ (nd.key = p.1 ∧ nd.val = p.2 ∧ nd.low = lo ∧ nd.high = hi ∧ nd.kx = x ∧ nd.ky = y ∧ nd.fresh ≤ 1) ∧ Below W.heap.size W W')
    (hlo : LimL A lo (lx ++ p :: ly)) (hhi : LimH A hi (lx ++ p :: ly)) (hsl : SafeL n0 b most A lo ∧ SafeL n0 b most A hi) (hl : (∀ q ∈ lx, vc q.1 p.1 = -1) ∧ (∀ q ∈ ly, vc p.1 q.1 = -1))
    (hkx : ∀ (lo' hi' : Option Addr) (s' : Nat) (B : World), s' ≤ 1 → LimL B lo' lx → LimH B hi' lx → SafeL n0 b most B lo' → SafeL n0 b most B hi' → Okay b most M0 root B → n0 ≤ B.heap.size → J m0 B → Calls Tryz.prog 82 #[land b bh, plagg x lo' hi' s', .func (.yield lp) #[] #[]] B (Vis11 n0 b most M0 root J Jx xs m1 B))
    (hxs : xs[m1]? = some p)
    (hky : ∀ (lo' hi' : Option Addr) (s' : Nat) (B : World), s' ≤ 1 → LimL B lo' ly → LimH B hi' ly → SafeL n0 b most B lo' → SafeL n0 b most B hi' → Okay b most M0 root B → n0 ≤ B.heap.size → J (m1 + 1) B → Calls Tryz.prog 82 #[land b bh, plagg y lo' hi' s', .func (.yield lp) #[] #[]] B (Vis11 n0 b most M0 root J Jx xs m2 B))
    (ok : Okay b most M0 root A) (h0 : n0 ≤ A.heap.size) (hJ : J m0 A) (hm1 : m1 + 1 ≤ xs.length) :
    Calls Tryz.prog 82 #[land b bh, plagg i lo hi s, .func (.yield lp) #[] #[]] A (Vis11 n0 b most M0 root J Jx xs m2 A) := by
  have hb : Below A.heap.size A ((A.alloc (.cells #[ap b, .pointer (some ⟨bh, 0, none⟩)] 26)).alloc (.cells (pcell4 i lo hi s) 141)) := ((Below.refl _ A).alloc (Nat.le_refl _) _).alloc (by simp) _
  have e1 : (A.alloc (.cells #[ap b, .pointer (some ⟨bh, 0, none⟩)] 26)).heap.size = A.heap.size + 1 := by simp
  have q3 := (C2.new A 26 (ap b) (.pointer (some ⟨bh, 0, none⟩))).alloc (.cells (pcell4 i lo hi s) 141)
  have q4 := BC.new (A.alloc (.cells #[ap b, .pointer (some ⟨bh, 0, none⟩)] 26)) 141 (pcell4 i lo hi s)
  rw [e1] at q4
  have HRD := Lib.hid (hRd _ hb)
  have HB := Lib.hid (And.intro hb q3)
  have HR := Lib.hid R
  have HX := Lib.hid (And.intro hlo (And.intro hhi (And.intro hsl (And.intro ok (And.intro h0 (And.intro hJ (And.intro hm1 hl)))))))
  have HKX := Lib.hid hkx
  have HKY := Lib.hid hky
  have HXS := Lib.hid hxs
  obtain ⟨a0, a1, _⟩ := q3.all
  obtain ⟨p0, p1, p2, p3⟩ := q4.place
  clear hRd hlo hhi hsl hkx hxs hky ok h0 hJ hm1 hb e1 q3 q4 R hl
  refine (callsIn_wide (n := 1)).1 ?_
  refine callsIn_of_wp Tryz.func82 rfl trivial ?_ rfl
  simp only [Tryz.ntmps82, List.size_toArray, List.length_cons, List.length_nil, Nat.reduceAdd, Nat.reduceSub, Array.replicate_succ, Array.replicate_zero, List.push_toArray, List.append_toArray, List.nil_append, List.cons_append]
  gi_wp2
  refine ⟨trivial, (callsIn_wide.2 HRD.out).mono ?_⟩
  rintro e w2 ⟨nd, rfl, hnd, hb2⟩
  have HND := Lib.hid hnd
  have hbn : Below w2.heap.size w2 (w2.alloc (.cells (ncells nd) 144)) := (Below.refl _ w2).alloc (Nat.le_refl _) _
  have hb3 : Below A.heap.size A (w2.alloc (.cells (ncells nd) 144)) := (HB.out.1.trans (hb2.mono HB.out.1.size)).trans (hbn.mono (Nat.le_trans HB.out.1.size hb2.size))
  have hs2 : A.heap.size ≤ w2.heap.size := Nat.le_trans HB.out.1.size hb2.size
  have vs : VS11 n0 b bh most A.heap.size w2.heap.size nd (lx ++ p :: ly) (lx ++ p :: ly) (w2.alloc (.cells (ncells nd) 144)) := by
    obtain ⟨hlo, hhi, hsl, ok, h0, hJ, hm1, hl⟩ := HX.out
    obtain ⟨n1, n2, n3, n4, n5, n6, n7⟩ := hnd
    refine ⟨(HB.out.2.below hb2).below hbn, BC.new w2 _ _, by rw [n3]; exact hlo.below hb3, by rw [n4]; exact hhi.below hb3, ⟨by rw [n3]; exact hsl.1.below hb3, by rw [n4]; exact hsl.2.below hb3⟩, ⟨h0, by omega⟩, ok.new hb3 (Nat.le_refl _), ok.new hb3 hs2⟩
  have hkv : K11 n0 b most M0 root A (w2.alloc (.cells (ncells nd) 144)) := K11.below hb3
  have hj := HR.out.keep _ _ _ HX.out.2.2.2.2.2.1 hb3
  have hsA : n0 ≤ (w2.alloc (.cells (ncells nd) 144)).heap.size := Nat.le_trans HX.out.2.2.2.2.1 hb3.size
  have HV := Lib.hid (And.intro vs (And.intro hkv (And.intro hj hsA)))
  have q9 := BC.new w2 144 (ncells nzero)
  obtain ⟨f0, f1, f2, f3, f4, f5, f6, f7, f8, f9, f10, f11, f12, f13⟩ := q9.fz14
  obtain ⟨c0, c1, c2, c3, c4, c5, c6, c7, c8, c9, c10, c11, c12, c13⟩ := q9.node
  clear vs hkv hj hsA q9 hnd hbn hb2 hb3 hs2 a0 a1 p0 p1 p2 p3 HRD HB
  simp only at c0 c1 c2 c3 c4 c5 c6 c7 c8 c9 c10 c11 c12 c13
  gi_wp2
  clear f0 f1 f2 f3 f4 f5 f6 f7 f8 f9 f10 f11 f12 f13 c0 c1 c2 c3 c4 c5 c6 c7 c8 c9 c10 c11 c12 c13
  change Code.wpIn _ _ _ _ _ _ (w2.alloc (.cells (ncells nd) 144))
  generalize w2.alloc _ = w3 at HV ⊢
  generalize w2.heap.size = z7 at HV ⊢
  generalize A.heap.size = z3 at HV ⊢
  have l0 : ∀ W, VS11 n0 b bh most z3 z7 nd (lx ++ p :: ly) (lx ++ p :: ly) W → W.cell? ⟨z3, 0, none⟩ = some (ap b) := fun W h => h.lb.c0
  have l1 : ∀ W, VS11 n0 b bh most z3 z7 nd (lx ++ p :: ly) (lx ++ p :: ly) W → W.cell? ⟨z3, 1, none⟩ = some (.pointer (some ⟨bh, 0, none⟩)) := fun W h => h.lb.c1
  have n0' : ∀ W, VS11 n0 b bh most z3 z7 nd (lx ++ p :: ly) (lx ++ p :: ly) W → W.cell? ⟨z7, 0, none⟩ = some (.int .u8 nd.key.1) := fun W h => h.nb.node.1
  have n1' : ∀ W, VS11 n0 b bh most z3 z7 nd (lx ++ p :: ly) (lx ++ p :: ly) W → W.cell? ⟨z7, 1, none⟩ = some (.int .i64 nd.key.2.1) := fun W h => h.nb.node.2.1
  have n2' : ∀ W, VS11 n0 b bh most z3 z7 nd (lx ++ p :: ly) (lx ++ p :: ly) W → W.cell? ⟨z7, 2, none⟩ = some (.string nd.key.2.2) := fun W h => h.nb.node.2.2.1
  have n3' : ∀ W, VS11 n0 b bh most z3 z7 nd (lx ++ p :: ly) (lx ++ p :: ly) W → W.cell? ⟨z7, 3, none⟩ = some (.int .u8 nd.val.1) := fun W h => h.nb.node.2.2.2.1
  have n4' : ∀ W, VS11 n0 b bh most z3 z7 nd (lx ++ p :: ly) (lx ++ p :: ly) W → W.cell? ⟨z7, 4, none⟩ = some (.int .i64 nd.val.2.1) := fun W h => h.nb.node.2.2.2.2.1
  have n5' : ∀ W, VS11 n0 b bh most z3 z7 nd (lx ++ p :: ly) (lx ++ p :: ly) W → W.cell? ⟨z7, 5, none⟩ = some (.string nd.val.2.2) := fun W h => h.nb.node.2.2.2.2.2.1
  refine anyX_region (S := fun W' => VS11 n0 b bh most z3 z7 nd (lx ++ p :: ly) (lx ++ p :: ly) W') (X := []) (by kernel_rfl) ?_
  have hH : VS11 n0 b bh most z3 z7 nd (lx ++ p :: ly) (lx ++ p :: ly) w3.drew := HV.out.1.below (Below.refl _ w3).drew
  have HKD := Lib.hid (And.intro (HV.out.2.1.trans (K11.below (Below.refl _ w3).drew)) (And.intro (HR.out.keep _ _ _ HV.out.2.2.1 (Below.refl _ w3).drew) (show n0 ≤ w3.drew.heap.size from HV.out.2.2.2)))
  generalize w3.drew = W1 at hH HKD ⊢
  clear HV
  refine AnyX.first (i := 0) (v := ?_) (by kernel_rfl) (by kernel_rfl) rfl (by kernel_rfl) (by kernel_rfl) (by kernel_rfl) (fun _ _ _ h => h) ⟨fun _ => rfl, Or.inl ⟨by rfl, ?_⟩⟩ hH ?_
  rotate_left
  · intro W' hS
    go_simp
    with_reducible rfl
  simp only [Act.put, List.setIfInBounds_toArray, List.set_cons_zero, List.set_cons_succ, List.getElem_toArray, List.getElem_cons_zero, List.getElem_cons_succ]
  refine AnyX.first (i := 1) (v := ?_) (by kernel_rfl) (by kernel_rfl) rfl (by kernel_rfl) (by kernel_rfl) (by kernel_rfl) (fun _ _ _ h => h) ⟨fun _ => rfl, Or.inl ⟨by rfl, ?_⟩⟩ hH ?_
  rotate_left
  · intro W' hS
    go_simp
    with_reducible rfl
  simp only [Act.put, List.setIfInBounds_toArray, List.set_cons_zero, List.set_cons_succ, List.getElem_toArray, List.getElem_cons_zero, List.getElem_cons_succ]
  refine AnyX.first (i := 2) (v := ?_) (by kernel_rfl) (by kernel_rfl) rfl (by kernel_rfl) (by kernel_rfl) (by kernel_rfl) (fun _ _ _ h => h) ⟨fun _ => rfl, Or.inl ⟨by rfl, ?_⟩⟩ hH ?_
  rotate_left
  · intro W' hS
    go_simp
    with_reducible rfl
  simp only [Act.put, List.setIfInBounds_toArray, List.set_cons_zero, List.set_cons_succ, List.getElem_toArray, List.getElem_cons_zero, List.getElem_cons_succ]
  refine AnyX.first (i := 3) (v := ?_) (by kernel_rfl) (by kernel_rfl) rfl (by kernel_rfl) (by kernel_rfl) (by kernel_rfl) (fun _ _ _ h => h) ⟨fun _ => rfl, Or.inl ⟨by rfl, ?_⟩⟩ hH ?_
  rotate_left
  · intro W' hS
    go_simp
    with_reducible rfl
  simp only [Act.put, List.setIfInBounds_toArray, List.set_cons_zero, List.set_cons_succ, List.getElem_toArray, List.getElem_cons_zero, List.getElem_cons_succ]
  refine AnyX.first (i := 4) (v := nagg nd) (by kernel_rfl) (by kernel_rfl) rfl (by kernel_rfl) (by kernel_rfl) (by kernel_rfl) (fun _ _ _ h => h) ⟨fun _ => rfl, Or.inl ⟨by rfl, fun W' hS => exec_node rfl rfl (VS11.nb hS)⟩⟩ hH ?_
  simp only [Act.put, List.setIfInBounds_toArray, List.set_cons_zero, List.set_cons_succ, List.getElem_toArray, List.getElem_cons_zero, List.getElem_cons_succ]
  refine AnyX.first (i := 6) (v := ?_) (by kernel_rfl) (by kernel_rfl) rfl (by kernel_rfl) (by kernel_rfl) (by kernel_rfl) (fun _ _ _ h => h) ⟨fun _ => rfl, Or.inl ⟨by rfl, ?_⟩⟩ hH ?_
  rotate_left
  · intro W' hS
    go_simp
    with_reducible rfl
  simp only [Act.put, List.setIfInBounds_toArray, List.set_cons_zero, List.set_cons_succ, List.getElem_toArray, List.getElem_cons_zero, List.getElem_cons_succ]
  refine AnyX.one (i := 5) (by kernel_rfl) rfl (fun K hK => ?_)
  replace hK := Lib.hid hK
  go_simp
  refine ⟨trivial, (callsIn_wide.2 (nbelow0 nd W1)).mono ?_⟩
  rintro e W2 ⟨g, rfl, hg, hgl, hbn⟩
  have hok := HKD.out.1.ok HX.out.2.2.2.1
  have hH2 := hH.below hbn
  have HPL := Lib.hid (And.intro (show LimL W2 nd.low lx from hH2.low.mono (fun a ha q hq => ha q (by simp [hq]))) (And.intro (show LimH W2 (some ⟨g, 0, none⟩) lx from .inr ⟨g, nd.key, rfl, hg, fun q hq => by rw [HND.out.1]; exact HX.out.2.2.2.2.2.2.2.1 q hq⟩) (And.intro hH2.sl.1 (show SafeL n0 b most W2 (some ⟨g, 0, none⟩) from fun a e => by cases e; exact ⟨Nat.le_trans HKD.out.2.2 hgl, hok.new hbn hgl⟩))))
  have HK2 := Lib.hid (And.intro (HKD.out.1.trans (K11.below hbn)) (And.intro (HR.out.keep _ _ _ HKD.out.2.1 hbn) (Nat.le_trans HKD.out.2.2 hbn.size)))
  simp only
  refine hK.out _ _ ⟨.inr hH2, ?_⟩
  clear hK K hH hbn hg hgl hok HKD
  rename VS11 _ _ _ _ _ _ _ _ _ W2 => hH
  refine AnyX.one (i := 7) (by kernel_rfl) rfl (fun K hK => ?_)
  replace hK := Lib.hid hK
  go_simp
  have call := HKX.out _ _ nd.fresh W2 HND.out.2.2.2.2.2.2 HPL.out.1 HPL.out.2.1 HPL.out.2.2.1 HPL.out.2.2.2 (HK2.out.1.ok HX.out.2.2.2.1) HK2.out.2.2 HK2.out.2.1
  rw [← HND.out.2.2.2.2.1] at call
  refine ⟨trivial, (callsIn_wide.2 call).mono ?_⟩
  clear call
  rintro e W3 (⟨rfl, hJ3, hk3⟩ | ⟨rfl, hk3, hJ3⟩)
  · have hH2 := hH.kv hk3
    have HK3 := Lib.hid (And.intro (HK2.out.1.trans hk3) hJ3)
    simp only
    refine hK.out _ _ ⟨.inr hH2, ?_⟩
    clear hK K hH hk3 hJ3 HK2 HPL
    rename VS11 _ _ _ _ _ _ _ _ _ W3 => hH
    refine AnyX.first (i := 8) (v := ?_) (by kernel_rfl) (by kernel_rfl) rfl (by kernel_rfl) (by kernel_rfl) (by kernel_rfl) (fun _ _ _ h => h) ⟨fun _ => rfl, Or.inl ⟨by rfl, ?_⟩⟩ hH ?_
    rotate_left
    · intro W' hS
      go_simp
      with_reducible rfl
    simp only [Act.put, List.setIfInBounds_toArray, List.set_cons_zero, List.set_cons_succ, List.getElem_toArray, List.getElem_cons_zero, List.getElem_cons_succ]
    refine AnyX.first (i := 9) (v := ?_) (by kernel_rfl) (by kernel_rfl) rfl (by kernel_rfl) (by kernel_rfl) (by kernel_rfl) (fun _ _ _ h => h) ⟨fun _ => rfl, Or.inl ⟨by rfl, ?_⟩⟩ hH ?_
    rotate_left
    · intro W' hS
      go_simp
      with_reducible rfl
    simp only [Act.put, List.setIfInBounds_toArray, List.set_cons_zero, List.set_cons_succ, List.getElem_toArray, List.getElem_cons_zero, List.getElem_cons_succ]
    refine AnyX.first (i := 10) (v := ?_) (by kernel_rfl) (by kernel_rfl) rfl (by kernel_rfl) (by kernel_rfl) (by kernel_rfl) (fun _ _ _ h => h) ⟨fun _ => rfl, Or.inl ⟨by rfl, ?_⟩⟩ hH ?_
    rotate_left
    · intro W' hS
      go_simp
      with_reducible rfl
    simp only [Act.put, List.setIfInBounds_toArray, List.set_cons_zero, List.set_cons_succ, List.getElem_toArray, List.getElem_cons_zero, List.getElem_cons_succ]
    refine AnyX.first (i := 11) (v := ?_) (by kernel_rfl) (by kernel_rfl) rfl (by kernel_rfl) (by kernel_rfl) (by kernel_rfl) (fun _ _ _ h => h) ⟨fun _ => rfl, Or.inl ⟨by rfl, ?_⟩⟩ hH ?_
    rotate_left
    · intro W' hS
      go_simp
      with_reducible rfl
    simp only [Act.put, List.setIfInBounds_toArray, List.set_cons_zero, List.set_cons_succ, List.getElem_toArray, List.getElem_cons_zero, List.getElem_cons_succ]
    obtain ⟨fn, tmps, assign, body, hy, hRR⟩ := HR.out.step m1 p W3 HXS.out HK3.out.2
    have e1 : nd.key.1 = p.1.1 ∧ nd.key.2.1 = p.1.2.1 ∧ nd.key.2.2 = p.1.2.2 ∧ nd.val.1 = p.2.1 ∧ nd.val.2.1 = p.2.2.1 ∧ nd.val.2.2 = p.2.2.2 := by rw [HND.out.1, HND.out.2.1]; exact ⟨rfl, rfl, rfl, rfl, rfl, rfl⟩
    rw [show pagg p = .agg #[.int .u8 nd.key.1, .int .i64 nd.key.2.1, .string nd.key.2.2, .int .u8 nd.val.1, .int .i64 nd.val.2.1, .string nd.val.2.2] by rw [e1.1, e1.2.1, e1.2.2.1, e1.2.2.2.1, e1.2.2.2.2.1, e1.2.2.2.2.2]] at hy
    clear e1
    refine AnyX.one (i := 12) (by kernel_rfl) rfl (fun K hK => ?_)
    replace hK := Lib.hid hK
    go_simp
    refine hRR.mono ?_
    rintro e W4 (⟨rfl, hJ4, hk4⟩ | ⟨rfl, hJ4, hk4⟩)
    · have hH2 := hH.kv hk4
      have HK4 := Lib.hid (And.intro (HK3.out.1.trans hk4) hJ4)
      simp only
      refine hK.out _ _ ⟨.inr hH2, ?_⟩
      clear hK K hH hk4 hJ4 HK3
      rename VS11 _ _ _ _ _ _ _ _ _ W4 => hH
      refine AnyX.first (i := 13) (v := ?_) (by kernel_rfl) (by kernel_rfl) rfl (by kernel_rfl) (by kernel_rfl) (by kernel_rfl) (fun _ _ _ h => h) ⟨fun _ => rfl, Or.inl ⟨by rfl, ?_⟩⟩ hH ?_
      rotate_left
      · intro W' hS
        go_simp
        with_reducible rfl
      simp only [Act.put, List.setIfInBounds_toArray, List.set_cons_zero, List.set_cons_succ, List.getElem_toArray, List.getElem_cons_zero, List.getElem_cons_succ]
      refine AnyX.first (i := 14) (v := ?_) (by kernel_rfl) (by kernel_rfl) rfl (by kernel_rfl) (by kernel_rfl) (by kernel_rfl) (fun _ _ _ h => h) ⟨fun _ => rfl, Or.inl ⟨by rfl, ?_⟩⟩ hH ?_
      rotate_left
      · intro W' hS
        go_simp
        with_reducible rfl
      simp only [Act.put, List.setIfInBounds_toArray, List.set_cons_zero, List.set_cons_succ, List.getElem_toArray, List.getElem_cons_zero, List.getElem_cons_succ]
      refine AnyX.first (i := 15) (v := ?_) (by kernel_rfl) (by kernel_rfl) rfl (by kernel_rfl) (by kernel_rfl) (by kernel_rfl) (fun _ _ _ h => h) ⟨fun _ => rfl, Or.inl ⟨by rfl, ?_⟩⟩ hH ?_
      rotate_left
      · intro W' hS
        go_simp
        with_reducible rfl
      simp only [Act.put, List.setIfInBounds_toArray, List.set_cons_zero, List.set_cons_succ, List.getElem_toArray, List.getElem_cons_zero, List.getElem_cons_succ]
      refine AnyX.first (i := 16) (v := nagg nd) (by kernel_rfl) (by kernel_rfl) rfl (by kernel_rfl) (by kernel_rfl) (by kernel_rfl) (fun _ _ _ h => h) ⟨fun _ => rfl, Or.inl ⟨by rfl, fun W' hS => exec_node rfl rfl (VS11.nb hS)⟩⟩ hH ?_
      simp only [Act.put, List.setIfInBounds_toArray, List.set_cons_zero, List.set_cons_succ, List.getElem_toArray, List.getElem_cons_zero, List.getElem_cons_succ]
      refine AnyX.first (i := 18) (v := ?_) (by kernel_rfl) (by kernel_rfl) rfl (by kernel_rfl) (by kernel_rfl) (by kernel_rfl) (fun _ _ _ h => h) ⟨fun _ => rfl, Or.inl ⟨by rfl, ?_⟩⟩ hH ?_
      rotate_left
      · intro W' hS
        go_simp
        with_reducible rfl
      simp only [Act.put, List.setIfInBounds_toArray, List.set_cons_zero, List.set_cons_succ, List.getElem_toArray, List.getElem_cons_zero, List.getElem_cons_succ]
      refine AnyX.one (i := 17) (by kernel_rfl) rfl (fun K hK => ?_)
      replace hK := Lib.hid hK
      go_simp
      refine ⟨trivial, (callsIn_wide.2 (nbelow1 nd W4)).mono ?_⟩
      rintro e W5 ⟨g, rfl, hg, hgl, hbn⟩
      have hok := HK4.out.1.ok HX.out.2.2.2.1
      have hsz : n0 ≤ W4.heap.size := Nat.le_trans hH.n3.1 (Nat.le_of_lt hH.lb.lt)
      have hH2 := hH.below hbn
      have HPL := Lib.hid (And.intro (show LimL W5 (some ⟨g, 0, none⟩) ly from .inr ⟨g, nd.key, rfl, hg, fun q hq => by rw [HND.out.1]; exact HX.out.2.2.2.2.2.2.2.2 q hq⟩) (And.intro (show LimH W5 nd.high ly from hH2.high.mono (fun a ha q hq => ha q (by simp [hq]))) (And.intro (show SafeL n0 b most W5 (some ⟨g, 0, none⟩) from fun a e => by cases e; exact ⟨Nat.le_trans hsz hgl, hok.new hbn hgl⟩) hH2.sl.2)))
      have HK5 := Lib.hid (And.intro (HK4.out.1.trans (K11.below hbn)) (And.intro (HR.out.keep _ _ _ HK4.out.2 hbn) (Nat.le_trans hsz hbn.size)))
      simp only
      refine hK.out _ _ ⟨.inr hH2, ?_⟩
      clear hK K hH hbn hg hgl hok hsz HK4
      rename VS11 _ _ _ _ _ _ _ _ _ W5 => hH
      refine AnyX.one (i := 19) (by kernel_rfl) rfl (fun K hK => ?_)
      replace hK := Lib.hid hK
      go_simp
      have call := HKY.out _ _ nd.fresh W5 HND.out.2.2.2.2.2.2 HPL.out.1 HPL.out.2.1 HPL.out.2.2.1 HPL.out.2.2.2 (HK5.out.1.ok HX.out.2.2.2.1) HK5.out.2.2 HK5.out.2.1
      rw [← HND.out.2.2.2.2.2.1] at call
      refine ⟨trivial, (callsIn_wide.2 call).mono ?_⟩
      clear call
      rintro e W6 (⟨rfl, hJ6, hk6⟩ | ⟨rfl, hk6, hJ6⟩)
      · have hH2 := hH.kv hk6
        have HF := Lib.hid (And.intro hJ6 (HK5.out.1.trans hk6))
        simp only
        refine hK.out _ _ ⟨.inr hH2, ?_⟩
        clear hK K hH hk6 hJ6 HK5 HPL
        rename VS11 _ _ _ _ _ _ _ _ _ W6 => hH
        refine AnyX.first (i := 20) (v := ?_) (by kernel_rfl) (by kernel_rfl) rfl (by kernel_rfl) (by kernel_rfl) (by kernel_rfl) (fun _ _ _ h => h) ⟨fun _ => rfl, Or.inl ⟨by rfl, ?_⟩⟩ hH ?_
        rotate_left
        · intro W' hS
          go_simp
          with_reducible rfl
        simp only [Act.put, List.setIfInBounds_toArray, List.set_cons_zero, List.set_cons_succ, List.getElem_toArray, List.getElem_cons_zero, List.getElem_cons_succ]
        refine AnyX.first (i := 21) (v := ?_) (by kernel_rfl) (by kernel_rfl) rfl (by kernel_rfl) (by kernel_rfl) (by kernel_rfl) (fun _ _ _ h => h) ⟨fun _ => rfl, Or.inl ⟨by rfl, ?_⟩⟩ hH ?_
        rotate_left
        · intro W' hS
          go_simp
          with_reducible rfl
        simp only [Act.put, List.setIfInBounds_toArray, List.set_cons_zero, List.set_cons_succ, List.getElem_toArray, List.getElem_cons_zero, List.getElem_cons_succ]
        refine AnyX.first (i := 22) (v := ?_) (by kernel_rfl) (by kernel_rfl) rfl (by kernel_rfl) (by kernel_rfl) (by kernel_rfl) (fun _ _ _ h => h) ⟨fun _ => rfl, Or.inl ⟨by rfl, ?_⟩⟩ hH ?_
        rotate_left
        · intro W' hS
          go_simp
          with_reducible rfl
        simp only [Act.put, List.setIfInBounds_toArray, List.set_cons_zero, List.set_cons_succ, List.getElem_toArray, List.getElem_cons_zero, List.getElem_cons_succ]
        refine AnyX.done (by kernel_rfl) ?_ _
        clear hH l0 l1 n0' n1' n2' n3' n4' n5'
        gi_wp2
        exact bodyPost_ret (v := .bool true) (by simp [results, Tryz.results82, go_sem]) rfl (.inl ⟨rfl, HF.out⟩)
      · have hH2 := hH.kv hk6
        have HF := Lib.hid (And.intro (HK5.out.1.trans hk6) hJ6)
        simp only
        refine hK.out _ _ ⟨.inr hH2, ?_⟩
        clear hK K hH hk6 hJ6 HK5 HPL
        rename VS11 _ _ _ _ _ _ _ _ _ W6 => hH
        refine AnyX.first (i := 20) (v := ?_) (by kernel_rfl) (by kernel_rfl) rfl (by kernel_rfl) (by kernel_rfl) (by kernel_rfl) (fun _ _ _ h => h) ⟨fun _ => rfl, Or.inl ⟨by rfl, ?_⟩⟩ hH ?_
        rotate_left
        · intro W' hS
          go_simp
          with_reducible rfl
        simp only [Act.put, List.setIfInBounds_toArray, List.set_cons_zero, List.set_cons_succ, List.getElem_toArray, List.getElem_cons_zero, List.getElem_cons_succ]
        refine AnyX.first (i := 21) (v := ?_) (by kernel_rfl) (by kernel_rfl) rfl (by kernel_rfl) (by kernel_rfl) (by kernel_rfl) (fun _ _ _ h => h) ⟨fun _ => rfl, Or.inl ⟨by rfl, ?_⟩⟩ hH ?_
        rotate_left
        · intro W' hS
          go_simp
          with_reducible rfl
        simp only [Act.put, List.setIfInBounds_toArray, List.set_cons_zero, List.set_cons_succ, List.getElem_toArray, List.getElem_cons_zero, List.getElem_cons_succ]
        refine AnyX.first (i := 22) (v := ?_) (by kernel_rfl) (by kernel_rfl) rfl (by kernel_rfl) (by kernel_rfl) (by kernel_rfl) (fun _ _ _ h => h) ⟨fun _ => rfl, Or.inl ⟨by rfl, ?_⟩⟩ hH ?_
        rotate_left
        · intro W' hS
          go_simp
          with_reducible rfl
        simp only [Act.put, List.setIfInBounds_toArray, List.set_cons_zero, List.set_cons_succ, List.getElem_toArray, List.getElem_cons_zero, List.getElem_cons_succ]
        refine AnyX.done (by kernel_rfl) ?_ _
        clear hH l0 l1 n0' n1' n2' n3' n4' n5'
        gi_wp2
        exact bodyPost_ret (v := .bool false) (by simp [results, Tryz.results82, go_sem]) rfl (.inr ⟨rfl, HF.out⟩)
    · have hH2 := hH.kv hk4
      have HF := Lib.hid (And.intro (HK3.out.1.trans hk4) hJ4)
      simp only
      refine hK.out _ _ ⟨.inr hH2, ?_⟩
      clear hK K hH hk4 hJ4 HK3
      rename VS11 _ _ _ _ _ _ _ _ _ W4 => hH
      refine AnyX.first (i := 13) (v := ?_) (by kernel_rfl) (by kernel_rfl) rfl (by kernel_rfl) (by kernel_rfl) (by kernel_rfl) (fun _ _ _ h => h) ⟨fun _ => rfl, Or.inl ⟨by rfl, ?_⟩⟩ hH ?_
      rotate_left
      · intro W' hS
        go_simp
        with_reducible rfl
      simp only [Act.put, List.setIfInBounds_toArray, List.set_cons_zero, List.set_cons_succ, List.getElem_toArray, List.getElem_cons_zero, List.getElem_cons_succ]
      refine AnyX.first (i := 14) (v := ?_) (by kernel_rfl) (by kernel_rfl) rfl (by kernel_rfl) (by kernel_rfl) (by kernel_rfl) (fun _ _ _ h => h) ⟨fun _ => rfl, Or.inl ⟨by rfl, ?_⟩⟩ hH ?_
      rotate_left
      · intro W' hS
        go_simp
        with_reducible rfl
      simp only [Act.put, List.setIfInBounds_toArray, List.set_cons_zero, List.set_cons_succ, List.getElem_toArray, List.getElem_cons_zero, List.getElem_cons_succ]
      refine AnyX.first (i := 15) (v := undef) (by kernel_rfl) (by kernel_rfl) rfl (by kernel_rfl) (by kernel_rfl) (by kernel_rfl) (fun _ _ _ h => h) ⟨fun _ => rfl, Or.inr ⟨by rfl, rfl⟩⟩ hH ?_
      simp only [Act.put, List.setIfInBounds_toArray, List.set_cons_zero, List.set_cons_succ, List.getElem_toArray, List.getElem_cons_zero, List.getElem_cons_succ]
      refine AnyX.first (i := 16) (v := undef) (by kernel_rfl) (by kernel_rfl) rfl (by kernel_rfl) (by kernel_rfl) (by kernel_rfl) (fun _ _ _ h => h) ⟨fun _ => rfl, Or.inr ⟨by rfl, rfl⟩⟩ hH ?_
      simp only [Act.put, List.setIfInBounds_toArray, List.set_cons_zero, List.set_cons_succ, List.getElem_toArray, List.getElem_cons_zero, List.getElem_cons_succ]
      refine AnyX.first (i := 18) (v := undef) (by kernel_rfl) (by kernel_rfl) rfl (by kernel_rfl) (by kernel_rfl) (by kernel_rfl) (fun _ _ _ h => h) ⟨fun _ => rfl, Or.inr ⟨by rfl, rfl⟩⟩ hH ?_
      simp only [Act.put, List.setIfInBounds_toArray, List.set_cons_zero, List.set_cons_succ, List.getElem_toArray, List.getElem_cons_zero, List.getElem_cons_succ]
      refine AnyX.one (i := 17) (by kernel_rfl) rfl (fun K hK => ?_)
      replace hK := Lib.hid hK
      go_simp
      refine ⟨trivial, ?_⟩
      refine hK.out _ _ ⟨.inr hH, ?_⟩
      clear hK K
      refine AnyX.one (i := 19) (by kernel_rfl) rfl (fun K hK => ?_)
      replace hK := Lib.hid hK
      go_simp
      refine ⟨trivial, ?_⟩
      refine hK.out _ _ ⟨.inr hH, ?_⟩
      clear hK K
      refine AnyX.first (i := 20) (v := ?_) (by kernel_rfl) (by kernel_rfl) rfl (by kernel_rfl) (by kernel_rfl) (by kernel_rfl) (fun _ _ _ h => h) ⟨fun _ => rfl, Or.inl ⟨by rfl, ?_⟩⟩ hH ?_
      rotate_left
      · intro W' hS
        go_simp
        with_reducible rfl
      simp only [Act.put, List.setIfInBounds_toArray, List.set_cons_zero, List.set_cons_succ, List.getElem_toArray, List.getElem_cons_zero, List.getElem_cons_succ]
      refine AnyX.first (i := 21) (v := ?_) (by kernel_rfl) (by kernel_rfl) rfl (by kernel_rfl) (by kernel_rfl) (by kernel_rfl) (fun _ _ _ h => h) ⟨fun _ => rfl, Or.inl ⟨by rfl, ?_⟩⟩ hH ?_
      rotate_left
      · intro W' hS
        go_simp
        with_reducible rfl
      simp only [Act.put, List.setIfInBounds_toArray, List.set_cons_zero, List.set_cons_succ, List.getElem_toArray, List.getElem_cons_zero, List.getElem_cons_succ]
      refine AnyX.first (i := 22) (v := ?_) (by kernel_rfl) (by kernel_rfl) rfl (by kernel_rfl) (by kernel_rfl) (by kernel_rfl) (fun _ _ _ h => h) ⟨fun _ => rfl, Or.inl ⟨by rfl, ?_⟩⟩ hH ?_
      rotate_left
      · intro W' hS
        go_simp
        with_reducible rfl
      simp only [Act.put, List.setIfInBounds_toArray, List.set_cons_zero, List.set_cons_succ, List.getElem_toArray, List.getElem_cons_zero, List.getElem_cons_succ]
      refine AnyX.done (by kernel_rfl) ?_ _
      clear hH l0 l1 n0' n1' n2' n3' n4' n5'
      gi_wp2
      exact bodyPost_ret (v := .bool false) (by simp [results, Tryz.results82, go_sem]) rfl (.inr ⟨rfl, HF.out.1, m1 + 1, HX.out.2.2.2.2.2.2.1, HF.out.2⟩)
  · have hH2 := hH.kv hk3
    have HF := Lib.hid (And.intro (HK2.out.1.trans hk3) hJ3)
    simp only
    refine hK.out _ _ ⟨.inr hH2, ?_⟩
    clear hK K hH hk3 hJ3 HK2 HPL
    rename VS11 _ _ _ _ _ _ _ _ _ W3 => hH
    refine AnyX.first (i := 8) (v := ?_) (by kernel_rfl) (by kernel_rfl) rfl (by kernel_rfl) (by kernel_rfl) (by kernel_rfl) (fun _ _ _ h => h) ⟨fun _ => rfl, Or.inl ⟨by rfl, ?_⟩⟩ hH ?_
    rotate_left
    · intro W' hS
      go_simp
      with_reducible rfl
    simp only [Act.put, List.setIfInBounds_toArray, List.set_cons_zero, List.set_cons_succ, List.getElem_toArray, List.getElem_cons_zero, List.getElem_cons_succ]
    refine AnyX.first (i := 9) (v := undef) (by kernel_rfl) (by kernel_rfl) rfl (by kernel_rfl) (by kernel_rfl) (by kernel_rfl) (fun _ _ _ h => h) ⟨fun _ => rfl, Or.inr ⟨by rfl, rfl⟩⟩ hH ?_
    simp only [Act.put, List.setIfInBounds_toArray, List.set_cons_zero, List.set_cons_succ, List.getElem_toArray, List.getElem_cons_zero, List.getElem_cons_succ]
    refine AnyX.first (i := 10) (v := undef) (by kernel_rfl) (by kernel_rfl) rfl (by kernel_rfl) (by kernel_rfl) (by kernel_rfl) (fun _ _ _ h => h) ⟨fun _ => rfl, Or.inr ⟨by rfl, rfl⟩⟩ hH ?_
    simp only [Act.put, List.setIfInBounds_toArray, List.set_cons_zero, List.set_cons_succ, List.getElem_toArray, List.getElem_cons_zero, List.getElem_cons_succ]
    refine AnyX.first (i := 11) (v := undef) (by kernel_rfl) (by kernel_rfl) rfl (by kernel_rfl) (by kernel_rfl) (by kernel_rfl) (fun _ _ _ h => h) ⟨fun _ => rfl, Or.inr ⟨by rfl, rfl⟩⟩ hH ?_
    simp only [Act.put, List.setIfInBounds_toArray, List.set_cons_zero, List.set_cons_succ, List.getElem_toArray, List.getElem_cons_zero, List.getElem_cons_succ]
    refine AnyX.first (i := 12) (v := undef) (by kernel_rfl) (by kernel_rfl) rfl (by kernel_rfl) (by kernel_rfl) (by kernel_rfl) (fun _ _ _ h => h) ⟨fun _ => rfl, Or.inr ⟨by rfl, rfl⟩⟩ hH ?_
    simp only [Act.put, List.setIfInBounds_toArray, List.set_cons_zero, List.set_cons_succ, List.getElem_toArray, List.getElem_cons_zero, List.getElem_cons_succ]
    refine AnyX.first (i := 13) (v := ?_) (by kernel_rfl) (by kernel_rfl) rfl (by kernel_rfl) (by kernel_rfl) (by kernel_rfl) (fun _ _ _ h => h) ⟨fun _ => rfl, Or.inl ⟨by rfl, ?_⟩⟩ hH ?_
    rotate_left
    · intro W' hS
      go_simp
      with_reducible rfl
    simp only [Act.put, List.setIfInBounds_toArray, List.set_cons_zero, List.set_cons_succ, List.getElem_toArray, List.getElem_cons_zero, List.getElem_cons_succ]
    refine AnyX.first (i := 14) (v := ?_) (by kernel_rfl) (by kernel_rfl) rfl (by kernel_rfl) (by kernel_rfl) (by kernel_rfl) (fun _ _ _ h => h) ⟨fun _ => rfl, Or.inl ⟨by rfl, ?_⟩⟩ hH ?_
    rotate_left
    · intro W' hS
      go_simp
      with_reducible rfl
    simp only [Act.put, List.setIfInBounds_toArray, List.set_cons_zero, List.set_cons_succ, List.getElem_toArray, List.getElem_cons_zero, List.getElem_cons_succ]
    refine AnyX.first (i := 15) (v := undef) (by kernel_rfl) (by kernel_rfl) rfl (by kernel_rfl) (by kernel_rfl) (by kernel_rfl) (fun _ _ _ h => h) ⟨fun _ => rfl, Or.inr ⟨by rfl, rfl⟩⟩ hH ?_
    simp only [Act.put, List.setIfInBounds_toArray, List.set_cons_zero, List.set_cons_succ, List.getElem_toArray, List.getElem_cons_zero, List.getElem_cons_succ]
    refine AnyX.first (i := 16) (v := undef) (by kernel_rfl) (by kernel_rfl) rfl (by kernel_rfl) (by kernel_rfl) (by kernel_rfl) (fun _ _ _ h => h) ⟨fun _ => rfl, Or.inr ⟨by rfl, rfl⟩⟩ hH ?_
    simp only [Act.put, List.setIfInBounds_toArray, List.set_cons_zero, List.set_cons_succ, List.getElem_toArray, List.getElem_cons_zero, List.getElem_cons_succ]
    refine AnyX.first (i := 18) (v := undef) (by kernel_rfl) (by kernel_rfl) rfl (by kernel_rfl) (by kernel_rfl) (by kernel_rfl) (fun _ _ _ h => h) ⟨fun _ => rfl, Or.inr ⟨by rfl, rfl⟩⟩ hH ?_
    simp only [Act.put, List.setIfInBounds_toArray, List.set_cons_zero, List.set_cons_succ, List.getElem_toArray, List.getElem_cons_zero, List.getElem_cons_succ]
    refine AnyX.one (i := 17) (by kernel_rfl) rfl (fun K hK => ?_)
    replace hK := Lib.hid hK
    go_simp
    refine ⟨trivial, ?_⟩
    refine hK.out _ _ ⟨.inr hH, ?_⟩
    clear hK K
    refine AnyX.one (i := 19) (by kernel_rfl) rfl (fun K hK => ?_)
    replace hK := Lib.hid hK
    go_simp
    refine ⟨trivial, ?_⟩
    refine hK.out _ _ ⟨.inr hH, ?_⟩
    clear hK K
    refine AnyX.first (i := 20) (v := ?_) (by kernel_rfl) (by kernel_rfl) rfl (by kernel_rfl) (by kernel_rfl) (by kernel_rfl) (fun _ _ _ h => h) ⟨fun _ => rfl, Or.inl ⟨by rfl, ?_⟩⟩ hH ?_
    rotate_left
    · intro W' hS
      go_simp
      with_reducible rfl
    simp only [Act.put, List.setIfInBounds_toArray, List.set_cons_zero, List.set_cons_succ, List.getElem_toArray, List.getElem_cons_zero, List.getElem_cons_succ]
    refine AnyX.first (i := 21) (v := ?_) (by kernel_rfl) (by kernel_rfl) rfl (by kernel_rfl) (by kernel_rfl) (by kernel_rfl) (fun _ _ _ h => h) ⟨fun _ => rfl, Or.inl ⟨by rfl, ?_⟩⟩ hH ?_
    rotate_left
    · intro W' hS
      go_simp
      with_reducible rfl
    simp only [Act.put, List.setIfInBounds_toArray, List.set_cons_zero, List.set_cons_succ, List.getElem_toArray, List.getElem_cons_zero, List.getElem_cons_succ]
    refine AnyX.first (i := 22) (v := ?_) (by kernel_rfl) (by kernel_rfl) rfl (by kernel_rfl) (by kernel_rfl) (by kernel_rfl) (fun _ _ _ h => h) ⟨fun _ => rfl, Or.inl ⟨by rfl, ?_⟩⟩ hH ?_
    rotate_left
    · intro W' hS
      go_simp
      with_reducible rfl
    simp only [Act.put, List.setIfInBounds_toArray, List.set_cons_zero, List.set_cons_succ, List.getElem_toArray, List.getElem_cons_zero, List.getElem_cons_succ]
    refine AnyX.done (by kernel_rfl) ?_ _
    clear hH l0 l1 n0' n1' n2' n3' n4' n5'
    gi_wp2
    exact bodyPost_ret (v := .bool false) (by simp [results, Tryz.results82, go_sem]) rfl (.inr ⟨rfl, HF.out⟩)
end
end Go.Proofs.YtghbbpbhbinioaaGreat

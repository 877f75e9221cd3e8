/- Several texts in one. -/
import Derived.Test.YthcpjehkjhpjfaaGreatMh30
import Derived.Test.YthcpjehkjhpjfaaGreatMh22
import Derived.IntWalk
namespace Go.Proofs.YthcpjehkjhpjfaaGreat
set_option maxRecDepth 100000
open Go.RowKit
theorem takeL_length {hs : Ky → Nat} {k : Ky} : ∀ {l : List Pr}, Srt hs l → hasB k l = true → (takeL k l).length + 1 = l.length
  | [], _, h => by simp [hasB] at h
  | q :: l, hs', h => by
    have h2 := (List.pairwise_cons.1 hs')
    by_cases e : q.1 = k
    · have hno : takeL k l = l := by
        refine List.filter_eq_self.2 (fun p hp => ?_)
        have hne : p.1 ≠ k := fun e2 => by
          have := Srt.key_inj hs' (p := p) (q := q) (List.mem_cons_of_mem _ hp) List.mem_cons_self (e2.trans e.symm)
          subst this
          exact absurd (h2.1 p hp) (klt_irrefl _)
        exact decide_eq_true hne
      show ((q :: l).filter _).length + 1 = _
      rw [List.filter_cons_of_neg (by simp [e])]
      exact congrArg (fun m : List Pr => m.length + 1) hno
    · have hb : hasB k l = true := by
        unfold hasB at h ⊢
        rw [List.any_cons, decide_eq_false e, Bool.false_or] at h
        exact h
      have ih := takeL_length h2.2 hb
      show ((q :: l).filter _).length + 1 = _
      rw [List.filter_cons_of_pos (by simp [e]), List.length_cons, List.length_cons]
      exact congrArg (· + 1) ih
structure Q11 (W : World) (z4 z5 z6 z8 b bh N root : Nat) (k : Ky) : Prop where
  lb : C2 W z4 30 (ap b) (.pointer (some ⟨bh, 0, none⟩))
  mb : C2 W z5 33 (.int .i64 (N : Int)) (.int .i64 (root : Int))
  kb : C3 W z6 43 (.int .u8 k.1) (.int .i64 k.2.1) (.string k.2.2)
  rb : C2 W z8 33 (.int .i64 0) (.int .i64 0)
theorem Q11.kp {W W' : World} {z4 z5 z6 z8 b bh N root : Nat} {k : Ky} {G : Nat → Prop} (h : Q11 W z4 z5 z6 z8 b bh N root k) (hk : Kp G W W') (hn : ∀ q, q = z4 ∨ q = z5 ∨ q = z6 ∨ q = z8 → ¬ G q) : Q11 W' z4 z5 z6 z8 b bh N root k :=
  ⟨h.lb.kp hk (hn _ (.inl rfl)), h.mb.kp hk (hn _ (.inr (.inl rfl))), h.kb.kp hk (hn _ (.inr (.inr (.inl rfl)))), h.rb.kp hk (hn _ (.inr (.inr (.inr rfl))))⟩
section
variable {most : Nat} {M : Cells} {F : Nat → Prop} {hs : Ky → Nat} {l : List Pr}
theorem vwayT (b bh seed root : Nat) (k : Ky) (ow : Int) (P : Nat → Nat) (w : World) (h : Ar w b most M F) (hm : most ≤ 1048576) (hb : Bk (most + 1) M [] P [root]) (hP : ∀ j, P j ≤ 576460752303423488) (hT : Mp M hs root l) (hh : Hs w bh seed) (nbh : ¬ F bh) (hhs : ∀ q, OkK q → hs q = hashN seed q.1 q.2.1 q.2.2) (hk : OkK k) (hlen : l.length ≤ 1024) :
    Calls Tryz.prog 90 #[land b bh, .agg #[.int .i64 (l.length : Nat), .int .i64 (root : Nat)], xagg k, .int .u32 ow] w fun e W' => ∃ x : Wv, e = .returned (wagg x) ∧ x.has = hasB k l ∧ Kp (fun q => q = bh) w W' ∧ Hs W' bh seed ∧
      (hasB k l = true → ∀ W2, Kp (fun q => q = bh) W' W2 → Hs W2 bh seed → Calls Tryz.prog 94 #[wagg x] W2 fun e w' => ∃ a c, e = .returned (.tuple #[a, c]) ∧ ((a = .int .i64 0 ∧ c = .int .i64 5 ∧ most < live (most + 1) M + 16 ∧ Kp (fun q => q = bh) W2 w' ∧ Hs w' bh seed) ∨
        ∃ (n : Nat) (M' : Cells), a = .int .i64 (n : Nat) ∧ c = .int .i64 0 ∧ MapR most M P hs root ow (takeL k l) n M' ∧ StpH W2 w' b bh seed most M' F)) := by
  rcases hT with ⟨rfl, rfl⟩ | hT
  · refine (vwayToE (M := M) bh seed 0 0 k ow w h hh nbh hk hb.zero).mono ?_
    rintro e W' ⟨rfl, k1, h1⟩
    exact ⟨_, rfl, rfl, k1, h1, fun e => by cases e⟩
  · refine (vwayTo bh seed l.length root k ow l hs w h hh nbh hk (hhs k hk) hT (by omega)).mono ?_
    rintro e W' ⟨x, cl, lf, rfl, hW, hR⟩
    obtain ⟨x1, x2, x3, x4, x5, x6, x7⟩ := hR.xb
    have hx : x.has = hasB k l := by rw [x7]; exact Bool.eq_iff_iff.2 ((hW.has rfl).trans hasB_iff.symm)
    refine ⟨x, rfl, hx, hR.kp, hR.hh, fun e W2 k2 h2 => ?_⟩
    have hz : ∀ {v : Value} {t n sz : Nat} {xs : List Value}, W'.ownsRow w.heap.size t sz v n xs → W2.ownsRow 0 t sz v n xs := fun ho => own_zero (k2.own ho (fun q hq e => by have := (own_blk ho q hq).1; have := hh.lt; omega))
    subst x1 x2 x3 x5
    have hA2 : Ar W2 x.b most M F := h.kp (hR.kp.trans k2 (fun q e => .inl e)) (fun q hq e => nbh (e ▸ hq))
    have hFl : ∀ q, F q → q < W2.heap.size := fun q hq => hA2.lt hq
    refine (vtake x k cl P W2 hA2 hm x4.symm hb hP hW (x7 ▸ hx ▸ e) hT.srt (by omega) (hz hR.o4) hR.len.1 hR.len.2.2 x6).mono ?_
    rintro e w' (⟨rfl, h3, hb9⟩ | ⟨n, M', rfl, h3, h4⟩)
    · exact ⟨_, _, rfl, .inl ⟨rfl, rfl, h3, Kp.of_below hb9 _, h2.below hb9⟩⟩
    · exact ⟨_, _, rfl, .inr ⟨n, M', rfl, rfl, h3, StpH.mk' hFl (Kp.refl _ W2) h2 nbh h4⟩⟩
set_option maxHeartbeats 6000000 in
theorem vTake (b bh seed root : Nat) (k : Ky) (ow : Int) (P : Nat → Nat) (w : World) (h : Ar w b most M F) (hm : most ≤ 1048576) (hb : Bk (most + 1) M [] P [root]) (hP : ∀ j, P j ≤ 576460752303423488) (hT : Mp M hs root l) (hh : Hs w bh seed) (nbh : ¬ F bh) (hhs : ∀ q, OkK q → hs q = hashN seed q.1 q.2.1 q.2.2) (hk : OkK k) (hlen : l.length ≤ 1024) :
    Calls Tryz.prog 24 #[land b bh, .agg #[.int .i64 (l.length : Nat), .int .i64 (root : Nat)], xagg k, .int .u32 ow] w fun e w' =>
      (e = .returned (.tuple #[.agg #[.int .i64 0, .int .i64 0], .int .i64 4]) ∧ hasB k l = false ∧ Kp (fun q => q = bh) w w' ∧ Hs w' bh seed) ∨
      (e = .returned (.tuple #[.agg #[.int .i64 0, .int .i64 0], .int .i64 5]) ∧ most < live (most + 1) M + 16 ∧ Kp (fun q => q = bh) w w' ∧ Hs w' bh seed) ∨
      ∃ (n : Nat) (M' : Cells), e = .returned (.tuple #[.agg #[.int .i64 ((takeL k l).length : Nat), .int .i64 (n : Nat)], .int .i64 0]) ∧ hasB k l = true ∧ MapR most M P hs root ow (takeL k l) n M' ∧ StpH w w' b bh seed most M' F := by
  have hbl := hh.lt
  have hFlt : ∀ q, F q → q < w.heap.size := fun q hq => h.lt hq
  have htl : hasB k l = true → ((takeL k l).length : Int) = (l.length : Int) - 1 := fun e => by have := takeL_length hT.srt e; omega
  have HWAY := Lib.hid (fun (W : World) (hW : Below w.heap.size w W) => vwayT (l := l) b bh seed root k ow P W (h.below hW) hm hb hP hT (hh.below hW) nbh hhs hk hlen)
  obtain ⟨W0, hW0⟩ : ∃ W0, W0 = ((((w.alloc (.cells #[ap b, .pointer (some ⟨bh, 0, none⟩)] 30)).alloc (.cells #[.int .i64 (l.length : Int), .int .i64 (root : Int)] 33)).alloc (.cells #[.int .u8 k.1, .int .i64 k.2.1, .string k.2.2] 43)).alloc (.cells #[.int .i64 0, .int .i64 0] 33)) := ⟨_, rfl⟩
  have hsz : W0.heap.size = w.heap.size + 1 + 1 + 1 + 1 := by rw [hW0]; simp
  have hb0 : Below w.heap.size w W0 := by rw [hW0]; exact ((((Below.refl _ w).alloc (Nat.le_refl _) _).alloc (by simp) _).alloc (by simp; omega) _).alloc (by simp; omega) _
  have q0 : Q11 W0 w.heap.size (w.heap.size + 1) (w.heap.size + 1 + 1) (w.heap.size + 1 + 1 + 1) b bh l.length root k := by
    refine ⟨?_, ?_, ?_, ?_⟩
    · rw [hW0]; exact (((C2.new w 30 (ap b) (.pointer (some ⟨bh, 0, none⟩))).alloc _).alloc _).alloc _
    · have h := ((C2.new (w.alloc (.cells #[ap b, .pointer (some ⟨bh, 0, none⟩)] 30)) 33 (.int .i64 (l.length : Int)) (.int .i64 (root : Int))).alloc (.cells #[.int .u8 k.1, .int .i64 k.2.1, .string k.2.2] 43)).alloc (.cells #[.int .i64 0, .int .i64 0] 33)
      rw [hW0]
      simpa using h
    · have h := (C3.new ((w.alloc (.cells #[ap b, .pointer (some ⟨bh, 0, none⟩)] 30)).alloc (.cells #[.int .i64 (l.length : Int), .int .i64 (root : Int)] 33)) 43 (.int .u8 k.1) (.int .i64 k.2.1) (.string k.2.2)).alloc (.cells #[.int .i64 0, .int .i64 0] 33)
      rw [hW0]
      simpa using h
    · have h := C2.new (((w.alloc (.cells #[ap b, .pointer (some ⟨bh, 0, none⟩)] 30)).alloc (.cells #[.int .i64 (l.length : Int), .int .i64 (root : Int)] 33)).alloc (.cells #[.int .u8 k.1, .int .i64 k.2.1, .string k.2.2] 43)) 33 (.int .i64 0) (.int .i64 0)
      rw [hW0]
      simpa using h
  obtain ⟨z4, hz4⟩ : ∃ z, z = w.heap.size := ⟨_, rfl⟩
  obtain ⟨z5, hz5⟩ : ∃ z, z = w.heap.size + 1 := ⟨_, rfl⟩
  obtain ⟨z6, hz6⟩ : ∃ z, z = w.heap.size + 1 + 1 := ⟨_, rfl⟩
  obtain ⟨z8, hz8⟩ : ∃ z, z = w.heap.size + 1 + 1 + 1 := ⟨_, rfl⟩
  have HW0 := Lib.hid hW0
  have HB0 := Lib.hid hb0
  have HZZ := Lib.hid (And.intro hz4 (And.intro hz5 (And.intro hz6 hz8)))
  rw [← hz8, ← hz6, ← hz5, ← hz4] at q0
  have Q1 := Lib.hid q0
  have ZL := Lib.hid (show bh < w.heap.size ∧ z4 = w.heap.size ∧ z5 = w.heap.size + 1 ∧ z6 = w.heap.size + 2 ∧ z8 = w.heap.size + 3 ∧ W0.heap.size = w.heap.size + 4 from ⟨hbl, hz4, hz5, hz6, hz8, hsz⟩)
  have HF := Lib.hid (And.intro hFlt (And.intro htl hlen))
  have x0 := q0.lb.c0
  have x1 := q0.lb.c1
  have x2 := q0.mb.c0
  have x3 := q0.mb.c1
  obtain ⟨k0, k1, k2, _⟩ := q0.kb.all
  clear h hm hb hP hT hh nbh hhs hk hlen hFlt htl hW0 hb0 hsz q0 hbl hz4 hz5 hz6 hz8
  go_enter Tryz.func24, Tryz.ntmps24
  go_upto_region 1 with fail
  rw [← HW0.out]
  clear HW0
  obtain ⟨e1, e2, e3, e4⟩ := HZZ.out
  rw [← e4, ← e3, ← e2, ← e1]
  clear e1 e2 e3 e4 HZZ
  go_wp2_with fail
  refine (HWAY.out _ HB0.out).mono ?_
  rintro e w2 ⟨⟨yb, ybh, yow, yg, yroot, A4, n4, c4, A5, n5, c5, A6, n6, c6, yat, yhas⟩, rfl, hx, hk2, hh2, htake⟩
  simp only at hx
  clear x0 x1 x2 x3 k0 k1 k2
  have Q2 := Lib.hid (Q1.out.kp hk2 (fun q hq => by have := ZL.out; omega))
  have HP2 := Lib.hid htake
  have HK2 := Lib.hid (And.intro hk2 hh2)
  have HX := Lib.hid hx
  clear htake hk2 hh2 hx HWAY Q1
  go_upto_region 2 with fail
  have q3 := WC.new w2 ⟨yb, ybh, yow, yg, yroot, A4, n4, c4, A5, n5, c5, A6, n6, c6, yat, yhas⟩
  have k3 : Kp (fun q => q = bh) W0 (w2.alloc (.cells #[ap yb, .pointer (some ⟨ybh, 0, none⟩), .int .u32 yow, .int .u64 yg, .int .i64 yroot, .slice A4 n4 c4, .slice A5 n5 c5, .slice A6 n6 c6, .int .i64 yat, .bool yhas] 162)) := HK2.out.1.alloc _
  have hh3 := HK2.out.2.alloc (.cells #[ap yb, .pointer (some ⟨ybh, 0, none⟩), .int .u32 yow, .int .u64 yg, .int .i64 yroot, .slice A4 n4 c4, .slice A5 n5 c5, .slice A6 n6 c6, .int .i64 yat, .bool yhas] 162)
  have kp3 : Kp (fun q => q = bh) w2 (w2.alloc (.cells #[ap yb, .pointer (some ⟨ybh, 0, none⟩), .int .u32 yow, .int .u64 yg, .int .i64 yroot, .slice A4 n4 c4, .slice A5 n5 c5, .slice A6 n6 c6, .int .i64 yat, .bool yhas] 162)) := (Kp.refl _ w2).alloc _
  have htk := fun e => HP2.out e _ kp3 hh3
  have Q3 := Lib.hid (Q2.out.kp ((Kp.refl (fun _ => False) w2).alloc (.cells #[ap yb, .pointer (some ⟨ybh, 0, none⟩), .int .u32 yow, .int .u64 yg, .int .i64 yroot, .slice A4 n4 c4, .slice A5 n5 c5, .slice A6 n6 c6, .int .i64 yat, .bool yhas] 162)) (fun _ _ => id))
  have hz12 : W0.heap.size ≤ w2.heap.size := HK2.out.1.size
  have hs3 : w2.heap.size < (w2.alloc (.cells #[ap yb, .pointer (some ⟨ybh, 0, none⟩), .int .u32 yow, .int .u64 yg, .int .i64 yroot, .slice A4 n4 c4, .slice A5 n5 c5, .slice A6 n6 c6, .int .i64 yat, .bool yhas] 162)).heap.size := by simp
  clear kp3 HP2 HK2 Q2
  simp only [wcells] at q3
  generalize w2.alloc (.cells #[ap yb, .pointer (some ⟨ybh, 0, none⟩), .int .u32 yow, .int .u64 yg, .int .i64 yroot, .slice A4 n4 c4, .slice A5 n5 c5, .slice A6 n6 c6, .int .i64 yat, .bool yhas] 162) = w3 at *
  generalize w2.heap.size = z10 at *
  have HK3 := Lib.hid ((Kp.of_below HB0.out (fun q => q = bh)).trans k3 (fun q h => .inl h))
  have HH3 := Lib.hid hh3
  have HTK := Lib.hid htk
  have ZZ := Lib.hid (show w.heap.size + 4 ≤ z10 ∧ z10 < w3.heap.size by have := ZL.out; omega)
  obtain ⟨m0, m1, m2, m3, m4, m5, m6, m7, m8, m9⟩ := q3.all
  obtain ⟨r0, r1, g0, g1⟩ := Q3.out.rb.all
  clear k3 hh3 htk q3 hz12 hs3
  have FULL := Lib.hid (fun w4 w9 (h1 : most < live (most + 1) M + 16) (h2 : Kp (fun q => q = bh) w3 w4) (h3 : Hs w4 bh seed) (h4 : Kp (fun q => q = z8) w4 w9) => (show most < live (most + 1) M + 16 ∧ Kp (fun q => q = bh) w w9 ∧ Hs w9 bh seed from by
    have h5 := ZL.out
    exact ⟨h1, (HK3.out.trans h2 (fun q h => .inl h)).trans h4 (fun q h => .inr (by omega)), h3.kp h4 (by omega)⟩))
  have NONE := Lib.hid (fun w9 (h4 : Kp (fun q => q = z8) w3 w9) => (show Kp (fun q => q = bh) w w9 ∧ Hs w9 bh seed from by
    have h5 := ZL.out
    exact ⟨HK3.out.trans h4 (fun q h => .inr (by omega)), HH3.out.kp h4 (by omega)⟩))
  have OK := Lib.hid (fun w4 w9 M' (h1 : StpH w3 w4 b bh seed most M' F) (h2 : Kp (fun q => q = z8) w4 w9) => (show StpH w w9 b bh seed most M' F from by
    have h5 := ZL.out
    have h6 := ZZ.out
    exact StpH.close HF.out.1 h5.1 HK3.out h1 h2 (fun q h => by omega)))
  have QOK := Lib.hid (fun w4 M' (h1 : StpH w3 w4 b bh seed most M' F) => (show Q11 w4 z4 z5 z6 z8 b bh l.length root k from by
    have h5 := ZL.out
    have hn : ∀ z, w.heap.size ≤ z → ¬ (F z ∨ z = bh) := fun z hz h => h.elim (fun h => by have := HF.out.1 z h; omega) (fun h => by omega)
    exact Q3.out.kp h1.kp (fun q hq => hn q (by omega))))
  have hw1 : IntKind.i64.wrap ((l.length : Int) - 1) = (l.length : Int) - 1 := IntWalk.i64_in _ (by have := HF.out.2.2; omega)
  cases yhas
  · have FE := Lib.hid (fun w9 h9 => NONE.out w9 h9)
    clear m0 m1 m2 m3 m4 m5 m6 m7 m8
    go_wp2_with fail
    refine bodyPost_ret (v := .tuple #[.agg #[.int .i64 0, .int .i64 0], .int .i64 4]) (by simp [results, Tryz.results24, go_sem, r0, r1]) rfl (.inl ⟨rfl, HX.out.symm, FE.out _ ?_⟩)
    repeat first
      | with_reducible exact Kp.refl _ _
      | with_reducible refine Kp.setCell ?_ (by simp) _
  · go_wp2_with fail
    refine (HTK.out HX.out.symm).mono ?_
    rintro e w4 ⟨a, c, rfl, (⟨rfl, rfl, h1, h2, h3⟩ | ⟨n, M', rfl, rfl, h1, h2⟩)⟩
    · have q4 := Q3.out.kp h2 (fun q hq => by have := ZL.out; omega)
      obtain ⟨r0, r1, g0, g1⟩ := q4.rb.all
      have FE := Lib.hid (fun w9 h9 => FULL.out w4 w9 h1 h2 h3 h9)
      clear h1 h2 h3 q4 m0 m1 m2 m3 m4 m5 m6 m7 m8 m9
      go_wp2_with fail
      refine bodyPost_ret (v := .tuple #[.agg #[.int .i64 0, .int .i64 0], .int .i64 5]) (by simp [results, Tryz.results24, go_sem, r0, r1]) rfl (.inr (.inl ⟨rfl, FE.out _ ?_⟩))
      repeat first
        | with_reducible exact Kp.refl _ _
        | with_reducible refine Kp.setCell ?_ (by simp) _
    · have q4 := QOK.out w4 M' h2
      obtain ⟨r0, r1, g0, g1⟩ := q4.rb.all
      have x2 := q4.mb.c0
      have x3 := q4.mb.c1
      have FE := Lib.hid (fun w9 h9 => OK.out w4 w9 M' h2 h9)
      have HM := Lib.hid h1
      clear h1 h2 q4 m0 m1 m2 m3 m4 m5 m6 m7 m8 m9
      go_wp2_with fail
      refine bodyPost_ret (v := .tuple #[.agg #[.int .i64 ((l.length : Int) - 1), .int .i64 (n : Nat)], .int .i64 0]) (by simp [results, Tryz.results24, go_sem, r0, r1]) rfl (.inr (.inr ⟨n, M', ?_, HX.out.symm, HM.out, FE.out _ ?_⟩))
      · rw [HF.out.2.1 HX.out.symm]
      · repeat first
          | with_reducible exact Kp.refl _ _
          | with_reducible refine Kp.setCell ?_ (by simp) _
end
end Go.Proofs.YthcpjehkjhpjfaaGreat

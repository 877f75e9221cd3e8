/- Several texts in one. -/
import Derived.Test.YtdddhmipifkepaaGreatMq20
import Derived.IntWalk
import Derived.OrdersIn
import Derived.Test.YtdddhmipifkepaaGreatMq01
namespace Go.Proofs.YtdddhmipifkepaaGreat
set_option maxRecDepth 100000
open Go.RowKit
def Long (l : List Pr) : Prop := 1024 ≤ l.length
structure Q10 (W : World) (z5 z6 z7 z8 z10 b bh N root : Nat) (k v : Ky) : Prop where
  lb : C2 W z5 26 (ap b) (.pointer (some ⟨bh, 0, none⟩))
  mb : C2 W z6 30 (.int .i64 (N : Int)) (.int .i64 (root : Int))
  kb : C3 W z7 36 (.int .u8 k.1) (.int .i64 k.2.1) (.string k.2.2)
  vb : C3 W z8 36 (.int .u8 v.1) (.int .i64 v.2.1) (.string v.2.2)
  rb : C2 W z10 30 (.int .i64 0) (.int .i64 0)
theorem Q10.kp {W W' : World} {z5 z6 z7 z8 z10 b bh N root : Nat} {k v : Ky} {G : Nat → Prop} (h : Q10 W z5 z6 z7 z8 z10 b bh N root k v) (hk : Kp G W W') (hn : ∀ q, q = z5 ∨ q = z6 ∨ q = z7 ∨ q = z8 ∨ q = z10 → ¬ G q) : Q10 W' z5 z6 z7 z8 z10 b bh N root k v :=
  ⟨h.lb.kp hk (hn _ (.inl rfl)), h.mb.kp hk (hn _ (.inr (.inl rfl))), h.kb.kp hk (hn _ (.inr (.inr (.inl rfl)))), h.vb.kp hk (hn _ (.inr (.inr (.inr (.inl rfl))))), h.rb.kp hk (hn _ (.inr (.inr (.inr (.inr rfl)))))⟩
section
variable {most : Nat} {M : Cells} {F : Nat → Prop} {hs : Ky → Nat} {l : List Pr}
set_option maxHeartbeats 6000000 in
theorem vPut (b bh seed root : Nat) (k v : Ky) (ow : Int) (P : Nat → Nat) (w : World) (h : Ar w b most M F) (hm : most ≤ 1048576) (hb : Bk (most + 1) M [] P [root]) (hP : ∀ j, P j ≤ 576460752303423488) (hT : Mp M hs root l) (hh : Hs w bh seed) (nbh : ¬ F bh) (hhs : ∀ q, OkK q → hs q = hashN seed q.1 q.2.1 q.2.2) (hkl : ∀ q ∈ l, OkK q.1) (hk : OkK k) (hlen : l.length ≤ 1024) :
    Calls Tryz.prog 15 #[land b bh, .agg #[.int .i64 (l.length : Nat), .int .i64 (root : Nat)], xagg k, xagg v, .int .u32 ow] w fun e w' =>
      (e = .returned (.tuple #[.agg #[.int .i64 0, .int .i64 0], .int .i64 12]) ∧ hasB k l = false ∧ Long l ∧ Kp (fun q => q = bh) w w' ∧ Hs w' bh seed) ∨
      (e = .returned (.tuple #[.agg #[.int .i64 0, .int .i64 0], .int .i64 5]) ∧ most < live (most + 1) M + 16 ∧ Kp (fun q => q = bh) w w' ∧ Hs w' bh seed) ∨
      ∃ n M', e = .returned (.tuple #[.agg #[.int .i64 ((putL hs (k, v) l).length : Nat), .int .i64 (n : Nat)], .int .i64 0]) ∧ (hasB k l = true ∨ ¬ Long l) ∧ 1 ≤ n ∧ MapR most M P hs root ow (putL hs (k, v) l) n M' ∧ StpH w w' b bh seed most M' F := by
  have hbl := hh.lt
  have hFlt : ∀ q, F q → q < w.heap.size := fun q hq => h.lt hq
  have hput := putL_length (p := (k, v)) hT.srt
  simp only at hput
  have HWAY := Lib.hid (fun (W : World) (hW : Below w.heap.size w W) => vwayP (l := l) b bh seed root k v ow P W (h.below hW) hm hb hP hT (hh.below hW) nbh hhs hkl hk hlen)
  have HLK := Lib.hid (vlacks b bh)
  obtain ⟨W0, hW0⟩ : ∃ W0, W0 = (((((w.alloc (.cells #[ap b, .pointer (some ⟨bh, 0, none⟩)] 26)).alloc (.cells #[.int .i64 (l.length : Int), .int .i64 (root : Int)] 30)).alloc (.cells #[.int .u8 k.1, .int .i64 k.2.1, .string k.2.2] 36)).alloc (.cells #[.int .u8 v.1, .int .i64 v.2.1, .string v.2.2] 36)).alloc (.cells #[.int .i64 0, .int .i64 0] 30)) := ⟨_, rfl⟩
  have hsz : W0.heap.size = w.heap.size + 1 + 1 + 1 + 1 + 1 := by rw [hW0]; simp
  have hb0 : Below w.heap.size w W0 := by rw [hW0]; exact (((((Below.refl _ w).alloc (Nat.le_refl _) _).alloc (by simp) _).alloc (by simp; omega) _).alloc (by simp; omega) _).alloc (by simp; omega) _
  have q0 : Q10 W0 w.heap.size (w.heap.size + 1) (w.heap.size + 1 + 1) (w.heap.size + 1 + 1 + 1) (w.heap.size + 1 + 1 + 1 + 1) b bh l.length root k v := by
    refine ⟨?_, ?_, ?_, ?_, ?_⟩
    · rw [hW0]; exact ((((C2.new w 26 (ap b) (.pointer (some ⟨bh, 0, none⟩))).alloc _).alloc _).alloc _).alloc _
    · have h := (((C2.new (w.alloc (.cells #[ap b, .pointer (some ⟨bh, 0, none⟩)] 26)) 30 (.int .i64 (l.length : Int)) (.int .i64 (root : Int))).alloc (.cells #[.int .u8 k.1, .int .i64 k.2.1, .string k.2.2] 36)).alloc (.cells #[.int .u8 v.1, .int .i64 v.2.1, .string v.2.2] 36)).alloc (.cells #[.int .i64 0, .int .i64 0] 30)
      rw [hW0]
      simpa using h
    · have h := ((C3.new ((w.alloc (.cells #[ap b, .pointer (some ⟨bh, 0, none⟩)] 26)).alloc (.cells #[.int .i64 (l.length : Int), .int .i64 (root : Int)] 30)) 36 (.int .u8 k.1) (.int .i64 k.2.1) (.string k.2.2)).alloc (.cells #[.int .u8 v.1, .int .i64 v.2.1, .string v.2.2] 36)).alloc (.cells #[.int .i64 0, .int .i64 0] 30)
      rw [hW0]
      simpa using h
    · have h := (C3.new (((w.alloc (.cells #[ap b, .pointer (some ⟨bh, 0, none⟩)] 26)).alloc (.cells #[.int .i64 (l.length : Int), .int .i64 (root : Int)] 30)).alloc (.cells #[.int .u8 k.1, .int .i64 k.2.1, .string k.2.2] 36)) 36 (.int .u8 v.1) (.int .i64 v.2.1) (.string v.2.2)).alloc (.cells #[.int .i64 0, .int .i64 0] 30)
      rw [hW0]
      simpa using h
    · have h := C2.new ((((w.alloc (.cells #[ap b, .pointer (some ⟨bh, 0, none⟩)] 26)).alloc (.cells #[.int .i64 (l.length : Int), .int .i64 (root : Int)] 30)).alloc (.cells #[.int .u8 k.1, .int .i64 k.2.1, .string k.2.2] 36)).alloc (.cells #[.int .u8 v.1, .int .i64 v.2.1, .string v.2.2] 36)) 30 (.int .i64 0) (.int .i64 0)
      rw [hW0]
      simpa using h
  obtain ⟨z5, hz5⟩ : ∃ z, z = w.heap.size := ⟨_, rfl⟩
  obtain ⟨z6, hz6⟩ : ∃ z, z = w.heap.size + 1 := ⟨_, rfl⟩
  obtain ⟨z7, hz7⟩ : ∃ z, z = w.heap.size + 1 + 1 := ⟨_, rfl⟩
  obtain ⟨z8, hz8⟩ : ∃ z, z = w.heap.size + 1 + 1 + 1 := ⟨_, rfl⟩
  obtain ⟨z10, hz10⟩ : ∃ z, z = w.heap.size + 1 + 1 + 1 + 1 := ⟨_, rfl⟩
  have HW0 := Lib.hid hW0
  have HB0 := Lib.hid hb0
  have HZZ := Lib.hid (And.intro hz5 (And.intro hz6 (And.intro hz7 (And.intro hz8 hz10))))
  have QQ := Lib.hid q0
  have ZL := Lib.hid (show bh < w.heap.size ∧ z5 = w.heap.size ∧ z6 = w.heap.size + 1 ∧ z7 = w.heap.size + 2 ∧ z8 = w.heap.size + 3 ∧ z10 = w.heap.size + 4 ∧ W0.heap.size = w.heap.size + 5 from ⟨hbl, hz5, hz6, hz7, hz8, hz10, hsz⟩)
  have HF := Lib.hid (And.intro hFlt (And.intro nbh (And.intro hput hlen)))
  have x0 := q0.lb.c0
  have x1 := q0.lb.c1
  clear h hm hb hP hT hh nbh hhs hkl hk hlen hFlt hput hW0 hb0 hsz q0 hbl hz5 hz6 hz7 hz8 hz10
  go_enter Tryz.func15, Tryz.ntmps15
  go_upto_region 1 with fail
  rw [← HW0.out]
  clear HW0
  obtain ⟨e1, e2, e3, e4, e5⟩ := HZZ.out
  rw [← e5, ← e4, ← e3, ← e2, ← e1] at QQ ⊢
  rw [← e1] at x0 x1
  clear e1 e2 e3 e4 e5 HZZ
  go_wp2_with fail
  refine (HLK.out _).mono ?_
  rintro e w1 ⟨rfl, hb1⟩
  have Q1 := Lib.hid (QQ.out.kp (Kp.of_below hb1 (fun _ => False)) (fun _ _ => id))
  have HB1 := Lib.hid (HB0.out.trans (hb1.mono HB0.out.size))
  have S1 := Lib.hid hb1.size
  clear hb1 x0 x1 HLK QQ
  have x0 := Q1.out.lb.c0
  have x1 := Q1.out.lb.c1
  have x2 := Q1.out.mb.c0
  have x3 := Q1.out.mb.c1
  obtain ⟨k0, k1, k2, _⟩ := Q1.out.kb.all
  go_wp2_with fail
  refine (HWAY.out _ HB1.out).mono ?_
  rintro e w2 ⟨⟨yb, ybh, yow, yg, yroot, A4, n4, c4, A5, n5, c5, A6, n6, c6, yat, yhas⟩, rfl, hx, hk2, hh2, hput⟩
  simp only at hx
  clear x0 x1 x2 x3 k0 k1 k2
  have Q2 := Lib.hid (Q1.out.kp hk2 (fun q hq => by have := ZL.out; omega))
  have HP2 := Lib.hid hput
  have HK2 := Lib.hid (And.intro hk2 hh2)
  have HX := Lib.hid hx
  clear hput hk2 hh2 hx HWAY Q1
  go_upto_region 4 with fail
  have q3 := WC.new w2 ⟨yb, ybh, yow, yg, yroot, A4, n4, c4, A5, n5, c5, A6, n6, c6, yat, yhas⟩
  have k3 : Kp (fun q => q = bh) w1 (w2.alloc (.cells #[ap yb, .pointer (some ⟨ybh, 0, none⟩), .int .u32 yow, .int .u64 yg, .int .i64 yroot, .slice A4 n4 c4, .slice A5 n5 c5, .slice A6 n6 c6, .int .i64 yat, .bool yhas] 169)) := HK2.out.1.alloc _
  have hh3 := HK2.out.2.alloc (.cells #[ap yb, .pointer (some ⟨ybh, 0, none⟩), .int .u32 yow, .int .u64 yg, .int .i64 yroot, .slice A4 n4 c4, .slice A5 n5 c5, .slice A6 n6 c6, .int .i64 yat, .bool yhas] 169)
  have kp3 : Kp (fun q => q = bh) w2 (w2.alloc (.cells #[ap yb, .pointer (some ⟨ybh, 0, none⟩), .int .u32 yow, .int .u64 yg, .int .i64 yroot, .slice A4 n4 c4, .slice A5 n5 c5, .slice A6 n6 c6, .int .i64 yat, .bool yhas] 169)) := (Kp.refl _ w2).alloc _
  have hput := HP2.out _ kp3 hh3
  have Q3 := Lib.hid (Q2.out.kp ((Kp.refl (fun _ => False) w2).alloc (.cells #[ap yb, .pointer (some ⟨ybh, 0, none⟩), .int .u32 yow, .int .u64 yg, .int .i64 yroot, .slice A4 n4 c4, .slice A5 n5 c5, .slice A6 n6 c6, .int .i64 yat, .bool yhas] 169)) (fun _ _ => id))
  have hz12 : w1.heap.size ≤ w2.heap.size := HK2.out.1.size
  have hs3 : w2.heap.size < (w2.alloc (.cells #[ap yb, .pointer (some ⟨ybh, 0, none⟩), .int .u32 yow, .int .u64 yg, .int .i64 yroot, .slice A4 n4 c4, .slice A5 n5 c5, .slice A6 n6 c6, .int .i64 yat, .bool yhas] 169)).heap.size := by simp
  clear kp3 HP2 HK2 Q2
  simp only [wcells] at q3
  generalize w2.alloc (.cells #[ap yb, .pointer (some ⟨ybh, 0, none⟩), .int .u32 yow, .int .u64 yg, .int .i64 yroot, .slice A4 n4 c4, .slice A5 n5 c5, .slice A6 n6 c6, .int .i64 yat, .bool yhas] 169) = w3 at *
  generalize w2.heap.size = z12 at *
  have HK3 := Lib.hid ((Kp.of_below HB1.out (fun q => q = bh)).trans k3 (fun q h => .inl h))
  have HH3 := Lib.hid hh3
  have HPUT := Lib.hid hput
  have HWC := Lib.hid q3
  have ZZ := Lib.hid (show w.heap.size + 5 ≤ z12 ∧ z12 < w3.heap.size by have := ZL.out; have := S1.out; omega)
  obtain ⟨m0, m1, m2, m3, m4, m5, m6, m7, m8, m9⟩ := q3.all
  obtain ⟨k0, k1, k2, _⟩ := Q3.out.kb.all
  obtain ⟨v0, v1, v2, _⟩ := Q3.out.vb.all
  obtain ⟨x2, x3, g2, g3⟩ := Q3.out.mb.all
  obtain ⟨r0, r1, g0, g1⟩ := Q3.out.rb.all
  clear k3 hh3 hput q3 hz12 hs3
  have hN : (0 : Int) ≤ (l.length : Int) ∧ (l.length : Int) ≤ 1024 := by have := HF.out.2.2.2; omega
  have hw1 : IntKind.i64.wrap ((l.length : Int) + 1) = (l.length : Int) + 1 := IntWalk.i64_in _ (by omega)
  have FULL : ∀ w4 w9, most < live (most + 1) M + 16 → Kp (fun q => q = bh) w3 w4 → Hs w4 bh seed → Kp (fun q => q = z10 ∨ q = z6) w4 w9 → most < live (most + 1) M + 16 ∧ Kp (fun q => q = bh) w w9 ∧ Hs w9 bh seed := fun w4 w9 h1 h2 h3 h4 => by
    have h5 := ZL.out
    exact ⟨h1, (HK3.out.trans h2 (fun q h => .inl h)).trans h4 (fun q h => .inr (by omega)), h3.kp h4 (by omega)⟩
  have LONG : ∀ w9, Kp (fun q => q = z10 ∨ q = z6) w3 w9 → Kp (fun q => q = bh) w w9 ∧ Hs w9 bh seed := fun w9 h4 => by
    have h5 := ZL.out
    exact ⟨HK3.out.trans h4 (fun q h => .inr (by omega)), HH3.out.kp h4 (by omega)⟩
  have OK : ∀ w4 w9 M', StpH w3 w4 b bh seed most M' F → Kp (fun q => q = z10 ∨ q = z6) w4 w9 → StpH w w9 b bh seed most M' F := fun w4 w9 M' h1 h2 => by
    have h5 := ZL.out
    have h6 := ZZ.out
    exact StpH.close HF.out.1 h5.1 HK3.out h1 h2 (fun q h => by omega)
  have QOK : ∀ w4 M', StpH w3 w4 b bh seed most M' F → Q10 w4 z5 z6 z7 z8 z10 b bh l.length root k v ∧ WC w4 z12 ⟨yb, ybh, yow, yg, yroot, A4, n4, c4, A5, n5, c5, A6, n6, c6, yat, yhas⟩ := fun w4 M' h1 => by
    have h5 := ZL.out
    have h6 := ZZ.out
    have hn : ∀ z, w.heap.size ≤ z → ¬ (F z ∨ z = bh) := fun z hz h => h.elim (fun h => by have := HF.out.1 z h; omega) (fun h => by omega)
    exact ⟨Q3.out.kp h1.kp (fun q hq => hn q (by omega)), HWC.out.kp h1.kp (hn z12 (by omega))⟩
  have FULL := Lib.hid FULL
  have LONG := Lib.hid LONG
  have OK := Lib.hid OK
  have QOK := Lib.hid QOK
  have ne1 : ¬ z6 = z10 := by have := ZL.out; omega
  have ne2 : ¬ z10 = z6 := by have := ZL.out; omega
  cases yhas
  · by_cases hc : 1024 ≤ l.length
    · have hc' : (1024 : Int) ≤ (l.length : Int) := by omega
      have hc := Lib.hid (show Long l from hc)
      have FE := Lib.hid (fun w9 h9 => LONG.out w9 h9)
      go_upto_region 5 with fail
      clear hc' m0 m1 m2 m3 m4 m5 m6 m7 m8 k0 k1 k2 v0 v1 v2 hN
      go_wp2_with fail
      refine bodyPost_ret (v := .tuple #[.agg #[.int .i64 0, .int .i64 0], .int .i64 12]) (by simp [results, Tryz.results15, go_sem, r0, r1]) rfl (.inl ⟨rfl, HX.out.symm, hc.out, FE.out _ ?_⟩)
      repeat first
        | with_reducible exact Kp.refl _ _
        | with_reducible refine Kp.setCell ?_ (by simp) _
    · have hc' : ¬ (1024 : Int) ≤ (l.length : Int) := by omega
      have hc := Lib.hid (show ¬ Long l from fun h => by unfold Long at h; omega)
      go_upto_region 6 with fail
      clear hc'
      go_wp2_with fail
      refine HPUT.out.mono ?_
      rintro e w4 ⟨a, c, rfl, (⟨rfl, rfl, h1, h2, h3⟩ | ⟨n, M', rfl, rfl, n1, h1, h2⟩)⟩
      · have q4 := Q3.out.kp h2 (fun q hq => by have := ZL.out; omega)
        obtain ⟨r0, r1, g0, g1⟩ := q4.rb.all
        have FE := Lib.hid (fun w9 h9 => FULL.out w4 w9 h1 h2 h3 h9)
        clear h1 h2 h3 q4 m0 m1 m2 m3 m4 m5 m6 m7 m8 m9 k0 k1 k2 v0 v1 v2 x2 x3 g2 g3
        go_wp2_with fail
        refine bodyPost_ret (v := .tuple #[.agg #[.int .i64 0, .int .i64 0], .int .i64 5]) (by simp [results, Tryz.results15, go_sem, r0, r1]) rfl (.inr (.inl ⟨rfl, FE.out _ ?_⟩))
        repeat first
          | with_reducible exact Kp.refl _ _
          | with_reducible refine Kp.setCell ?_ (by simp) _
      · have q4 := QOK.out w4 M' h2
        obtain ⟨r0, r1, g0, g1⟩ := q4.1.rb.all
        obtain ⟨x2, x3, g2, g3⟩ := q4.1.mb.all
        obtain ⟨m0, m1, m2, m3, m4, m5, m6, m7, m8, m9⟩ := q4.2.all
        have FE := Lib.hid (fun w9 h9 => OK.out w4 w9 M' h2 h9)
        have HM := Lib.hid (And.intro n1 h1)
        clear n1 h1 h2 q4 k0 k1 k2 v0 v1 v2
        go_wp2_with fail
        refine bodyPost_ret (v := .tuple #[.agg #[.int .i64 ((l.length : Int) + 1), .int .i64 (n : Nat)], .int .i64 0]) (by simp [results, Tryz.results15, go_sem, r0, r1]) rfl (.inr (.inr ⟨n, M', ?_, (.inr hc.out), HM.out.1, HM.out.2, FE.out _ ?_⟩))
        · have e1 := HF.out.2.2.1
          rw [← HX.out] at e1
          rw [if_neg (by decide)] at e1
          rw [e1]
          rfl
        · repeat first
            | with_reducible exact Kp.refl _ _
            | with_reducible refine Kp.setCell ?_ (by simp) _
  · go_upto_region 6 with fail
    go_wp2_with fail
    refine HPUT.out.mono ?_
    rintro e w4 ⟨a, c, rfl, (⟨rfl, rfl, h1, h2, h3⟩ | ⟨n, M', rfl, rfl, n1, h1, h2⟩)⟩
    · have q4 := Q3.out.kp h2 (fun q hq => by have := ZL.out; omega)
      obtain ⟨r0, r1, g0, g1⟩ := q4.rb.all
      have FE := Lib.hid (fun w9 h9 => FULL.out w4 w9 h1 h2 h3 h9)
      clear h1 h2 h3 q4 m0 m1 m2 m3 m4 m5 m6 m7 m8 m9 k0 k1 k2 v0 v1 v2 x2 x3 g2 g3
      go_wp2_with fail
      refine bodyPost_ret (v := .tuple #[.agg #[.int .i64 0, .int .i64 0], .int .i64 5]) (by simp [results, Tryz.results15, go_sem, r0, r1]) rfl (.inr (.inl ⟨rfl, FE.out _ ?_⟩))
      repeat first
        | with_reducible exact Kp.refl _ _
        | with_reducible refine Kp.setCell ?_ (by simp) _
    · have q4 := QOK.out w4 M' h2
      obtain ⟨r0, r1, g0, g1⟩ := q4.1.rb.all
      obtain ⟨x2, x3, g2, g3⟩ := q4.1.mb.all
      obtain ⟨m0, m1, m2, m3, m4, m5, m6, m7, m8, m9⟩ := q4.2.all
      have FE := Lib.hid (fun w9 h9 => OK.out w4 w9 M' h2 h9)
      have HM := Lib.hid (And.intro n1 h1)
      clear n1 h1 h2 q4 k0 k1 k2 v0 v1 v2
      go_wp2_with fail
      refine bodyPost_ret (v := .tuple #[.agg #[.int .i64 (l.length : Nat), .int .i64 (n : Nat)], .int .i64 0]) (by simp [results, Tryz.results15, go_sem, r0, r1]) rfl (.inr (.inr ⟨n, M', ?_, (.inl HX.out.symm), HM.out.1, HM.out.2, FE.out _ ?_⟩))
      · have e1 := HF.out.2.2.1
        rw [← HX.out] at e1
        rw [if_pos rfl] at e1
        rw [e1]
      · repeat first
          | with_reducible exact Kp.refl _ _
          | with_reducible refine Kp.setCell ?_ (by simp) _
end
end Go.Proofs.YtdddhmipifkepaaGreat

namespace Go.Proofs.YtdddhmipifkepaaGreat
set_option maxRecDepth 100000
open Go.RowKit
def noV : Ky := (0, 0, ⟨#[]⟩)
def lookV (k : Ky) (l : List Pr) : Ky := (lookL k l).getD noV
section
variable {most : Nat} {M : Cells} {F : Nat → Prop} {hs : Ky → Nat} {l : List Pr}
theorem vwayL (b bh seed root N : Nat) (k : Ky) (ow : Int) (w : World) (h : Ar w b most M F) (hz : M 0 = none) (hT : Mp M hs root l) (hh : Hs w bh seed) (nbh : ¬ F bh) (hhs : ∀ q, OkK q → hs q = hashN seed q.1 q.2.1 q.2.2) (hk : OkK k) (hlen : l.length ≤ 1024) :
    Calls Tryz.prog 95 #[land b bh, .agg #[.int .i64 (N : Nat), .int .i64 (root : Nat)], xagg k, .int .u32 ow] w fun e W' => ∃ x : Wv, e = .returned (wagg x) ∧ x.has = hasB k l ∧ Kp (fun q => q = bh) w W' ∧ Hs W' bh seed ∧
      (x.has = true → ∃ g, x.A6 = some ⟨g, 0, none⟩ ∧ w.heap.size ≤ g ∧ x.at' + 1 < x.n6 ∧ x.n6 ≤ 8192 ∧ W'.cell? ⟨g, (x.at' + 1) * 3, none⟩ = some (.int .u8 (lookV k l).1) ∧ W'.cell? ⟨g, (x.at' + 1) * 3 + 1, none⟩ = some (.int .i64 (lookV k l).2.1) ∧ W'.cell? ⟨g, (x.at' + 1) * 3 + 2, none⟩ = some (.string (lookV k l).2.2)) := by
  rcases hT with ⟨rfl, rfl⟩ | hT
  · refine (vwayToE (M := M) bh seed N 0 k ow w h hh nbh hk hz).mono ?_
    rintro e W' ⟨rfl, k1, h1⟩
    exact ⟨_, rfl, rfl, k1, h1, fun e => by cases e⟩
  · refine (vwayTo bh seed N root k ow l hs w h hh nbh hk (hhs k hk) hT (by omega)).mono ?_
    rintro e W' ⟨x, cl, lf, rfl, hW, hR⟩
    obtain ⟨x1, x2, x3, x4, x5, x6, x7⟩ := hR.xb
    have hhas : x.has = hasB k l := by rw [x7]; exact Bool.eq_iff_iff.2 ((hW.has rfl).trans hasB_iff.symm)
    refine ⟨x, rfl, hhas, hR.kp, hR.hh, fun e => ?_⟩
    obtain ⟨v, hv⟩ := hasN_at (x7 ▸ e)
    have hlv : lookV k l = v := by
      unfold lookV
      rw [(lookL_some hT.srt).2 (hW.sub _ (List.mem_of_getElem? hv))]
      rfl
    have hf := (flatP_at hv).2
    rw [← x6] at hf
    have hlt : x.at' + 1 < (flatP lf).length := (List.getElem?_eq_some_iff.1 hf).1
    have hll := hW.sublist.length_le
    obtain ⟨f0, f1, f2⟩ := flat3_at hf
    obtain ⟨g, c, eg, _, kc0, _⟩ := own_at hR.o6 f0
    simp only [Value.slice.injEq, true_and] at eg
    have o6 := hR.o6
    have e6 := eg.1
    rw [e6] at o6
    have hg := (own_blk o6 g rfl).1
    obtain ⟨g1, c1, eg1, _, kc1, _⟩ := own_at hR.o6 f1
    obtain ⟨g2, c2, eg2, _, kc2, _⟩ := own_at hR.o6 f2
    simp only [Value.slice.injEq, true_and] at eg1 eg2
    rw [e6] at eg1 eg2
    simp only [Option.some.injEq, Addr.mk.injEq, and_true] at eg1 eg2
    obtain ⟨rfl, _⟩ := eg1
    obtain ⟨rfl, _⟩ := eg2
    rw [hlv]
    exact ⟨g, e6, hg, by rw [hR.len.2.2]; exact hlt, by rw [hR.len.2.2, flatP_length]; omega, kc0, kc1, kc2⟩
end
end Go.Proofs.YtdddhmipifkepaaGreat

namespace Go.Proofs.YtdddhmipifkepaaGreat
set_option maxRecDepth 100000
open Go.RowKit
section
variable {most : Nat} {M : Cells} {F : Nat → Prop} {hs : Ky → Nat} {l : List Pr}
set_option maxHeartbeats 3000000 in
theorem vLook (b bh seed root N : Nat) (k : Ky) (w : World) (h : Ar w b most M F) (hz : M 0 = none) (hT : Mp M hs root l) (hh : Hs w bh seed) (nbh : ¬ F bh) (hhs : ∀ q, OkK q → hs q = hashN seed q.1 q.2.1 q.2.2) (hk : OkK k) (hlen : l.length ≤ 1024) :
    Calls Tryz.prog 19 #[land b bh, .agg #[.int .i64 (N : Nat), .int .i64 (root : Nat)], xagg k] w fun e w' => e = .returned (.tuple #[xagg (lookV k l), .bool (hasB k l)]) ∧ Kp (fun q => q = bh) w w' ∧ Hs w' bh seed := by
  have hno : hasB k l = false → lookV k l = noV := fun e => by
    unfold lookV
    rw [lookL_none.2 (fun q hq e2 => by have := hasB_iff.2 ⟨q, hq, e2⟩; rw [e] at this; cases this)]
    rfl
  have HWAY := Lib.hid (fun (W : World) (hW : Below w.heap.size w W) => vwayL (l := l) b bh seed root N k 0 W (h.below hW) hz hT (hh.below hW) nbh hhs hk hlen)
  have hbl := hh.lt
  obtain ⟨W0, hW0⟩ : ∃ W0, W0 = (((w.alloc (.cells #[ap b, .pointer (some ⟨bh, 0, none⟩)] 26)).alloc (.cells #[.int .i64 (N : Int), .int .i64 (root : Int)] 30)).alloc (.cells #[.int .u8 k.1, .int .i64 k.2.1, .string k.2.2] 36)).alloc (.cells #[.int .u8 0, .int .i64 0, .string ⟨#[]⟩] 36) := ⟨_, rfl⟩
  have hsz : W0.heap.size = w.heap.size + 1 + 1 + 1 + 1 := by rw [hW0]; simp
  have hb0 : Below w.heap.size w W0 := by rw [hW0]; exact ((((Below.refl _ w).alloc (Nat.le_refl _) _).alloc (by simp) _).alloc (by simp; omega) _).alloc (by simp; omega) _
  have q1 : C2 W0 w.heap.size 26 (ap b) (.pointer (some ⟨bh, 0, none⟩)) := by rw [hW0]; exact (((C2.new w 26 (ap b) (.pointer (some ⟨bh, 0, none⟩))).alloc _).alloc _).alloc _
  have q2 : C2 W0 (w.heap.size + 1) 30 (.int .i64 (N : Int)) (.int .i64 (root : Int)) := by
    have h := ((C2.new (w.alloc (.cells #[ap b, .pointer (some ⟨bh, 0, none⟩)] 26)) 30 (.int .i64 (N : Int)) (.int .i64 (root : Int))).alloc (.cells #[.int .u8 k.1, .int .i64 k.2.1, .string k.2.2] 36)).alloc (.cells #[.int .u8 0, .int .i64 0, .string ⟨#[]⟩] 36)
    rw [hW0]
    simpa using h
  have q3 : C3 W0 (w.heap.size + 1 + 1) 36 (.int .u8 k.1) (.int .i64 k.2.1) (.string k.2.2) := by
    have h := (C3.new ((w.alloc (.cells #[ap b, .pointer (some ⟨bh, 0, none⟩)] 26)).alloc (.cells #[.int .i64 (N : Int), .int .i64 (root : Int)] 30)) 36 (.int .u8 k.1) (.int .i64 k.2.1) (.string k.2.2)).alloc (.cells #[.int .u8 0, .int .i64 0, .string ⟨#[]⟩] 36)
    rw [hW0]
    simpa using h
  have q4 : C3 W0 (w.heap.size + 1 + 1 + 1) 36 (.int .u8 0) (.int .i64 0) (.string ⟨#[]⟩) := by
    have h := C3.new (((w.alloc (.cells #[ap b, .pointer (some ⟨bh, 0, none⟩)] 26)).alloc (.cells #[.int .i64 (N : Int), .int .i64 (root : Int)] 30)).alloc (.cells #[.int .u8 k.1, .int .i64 k.2.1, .string k.2.2] 36)) 36 (.int .u8 0) (.int .i64 0) (.string ⟨#[]⟩)
    rw [hW0]
    simpa using h
  obtain ⟨z3, hz3⟩ : ∃ z, z = w.heap.size := ⟨_, rfl⟩
  obtain ⟨z4, hz4⟩ : ∃ z, z = w.heap.size + 1 := ⟨_, rfl⟩
  obtain ⟨z5, hz5⟩ : ∃ z, z = w.heap.size + 1 + 1 := ⟨_, rfl⟩
  obtain ⟨z6, hz6⟩ : ∃ z, z = w.heap.size + 1 + 1 + 1 := ⟨_, rfl⟩
  have HW0 := Lib.hid hW0
  have HB0 := Lib.hid hb0
  have HZZ := Lib.hid (And.intro hz3 (And.intro hz4 (And.intro hz5 hz6)))
  rw [← hz6] at q4
  have QQ := Lib.hid q4
  have ZL := Lib.hid (show bh < w.heap.size ∧ z6 = w.heap.size + 3 ∧ W0.heap.size = w.heap.size + 4 from ⟨hbl, hz6, hsz⟩)
  have HNO := Lib.hid hno
  rw [← hz3] at q1
  rw [← hz4] at q2
  rw [← hz5] at q3
  obtain ⟨x0, x1, _⟩ := q1.all
  obtain ⟨x2, x3, _⟩ := q2.all
  obtain ⟨k0, k1, k2, _⟩ := q3.all
  clear h hz hT hh nbh hhs hk hlen hW0 hb0 hsz q1 q2 q3 q4 hbl hz3 hz4 hz5 hz6 hno
  go_enter Tryz.func19, Tryz.ntmps19
  go_upto_region 1 with fail
  rw [← HW0.out]
  clear HW0
  obtain ⟨e1, e2, e3, e4⟩ := HZZ.out
  rw [← e4, ← e3, ← e2, ← e1]
  clear e1 e2 e3 e4 HZZ
  go_wp2_with fail
  refine (HWAY.out _ HB0.out).mono ?_
  rintro e w2 ⟨⟨yb, ybh, yow, yg, yroot, A4, n4, c4, A5, n5, c5, A6, n6, c6, yat, yhas⟩, rfl, hx, hk2, hh2, hcell⟩
  simp only at hx hcell
  clear x0 x1 x2 x3 k0 k1 k2
  have q6 := QQ.out.kp hk2 (by have := ZL.out; omega)
  have HX := Lib.hid hx
  have HCC := Lib.hid hcell
  clear hx hcell
  have hs2 := hk2.size
  go_upto_region 2 with fail
  have kp3 : Kp (fun _ => False) w2 (w2.alloc (.cells #[ap yb, .pointer (some ⟨ybh, 0, none⟩), .int .u32 yow, .int .u64 yg, .int .i64 yroot, .slice A4 n4 c4, .slice A5 n5 c5, .slice A6 n6 c6, .int .i64 yat, .bool yhas] 169)) := (Kp.refl _ w2).alloc _
  have q3 := WC.new w2 ⟨yb, ybh, yow, yg, yroot, A4, n4, c4, A5, n5, c5, A6, n6, c6, yat, yhas⟩
  simp only [wcells] at q3
  have k3 := hk2.trans kp3 (fun _ h => h.elim)
  have hh3 := hh2.kp kp3 id
  have q63 := q6.kp kp3 id
  have hcell3 : yhas = true → ∃ g, A6 = some ⟨g, 0, none⟩ ∧ W0.heap.size ≤ g ∧ yat + 1 < n6 ∧ n6 ≤ 8192 ∧ (w2.alloc (.cells #[ap yb, .pointer (some ⟨ybh, 0, none⟩), .int .u32 yow, .int .u64 yg, .int .i64 yroot, .slice A4 n4 c4, .slice A5 n5 c5, .slice A6 n6 c6, .int .i64 yat, .bool yhas] 169)).cell? ⟨g, (yat + 1) * 3, none⟩ = some (.int .u8 (lookV k l).1) ∧ (w2.alloc (.cells #[ap yb, .pointer (some ⟨ybh, 0, none⟩), .int .u32 yow, .int .u64 yg, .int .i64 yroot, .slice A4 n4 c4, .slice A5 n5 c5, .slice A6 n6 c6, .int .i64 yat, .bool yhas] 169)).cell? ⟨g, (yat + 1) * 3 + 1, none⟩ = some (.int .i64 (lookV k l).2.1) ∧ (w2.alloc (.cells #[ap yb, .pointer (some ⟨ybh, 0, none⟩), .int .u32 yow, .int .u64 yg, .int .i64 yroot, .slice A4 n4 c4, .slice A5 n5 c5, .slice A6 n6 c6, .int .i64 yat, .bool yhas] 169)).cell? ⟨g, (yat + 1) * 3 + 2, none⟩ = some (.string (lookV k l).2.2) := fun e => by
    obtain ⟨g, h1, h2, h3, h4, h5, h6, h7⟩ := HCC.out e
    exact ⟨g, h1, h2, h3, h4, kp3.cell h5 id, kp3.cell h6 id, kp3.cell h7 id⟩
  clear kp3 q6 hk2 hh2 HCC QQ
  generalize w2.alloc (.cells #[ap yb, .pointer (some ⟨ybh, 0, none⟩), .int .u32 yow, .int .u64 yg, .int .i64 yroot, .slice A4 n4 c4, .slice A5 n5 c5, .slice A6 n6 c6, .int .i64 yat, .bool yhas] 169) = w3 at *
  have FIN := Lib.hid (fun w9 (h9 : Kp (fun q => q = z6) w3 w9) => (show Kp (fun q => q = bh) w w9 ∧ Hs w9 bh seed from by
    have h5 := ZL.out
    exact ⟨((Kp.of_below HB0.out (fun q => q = bh)).trans k3 (fun q h => .inl h)).trans h9 (fun q h => .inr (by omega)), hh3.kp h9 (by omega)⟩))
  obtain ⟨m0, m1, m2, m3, m4, m5, m6, m7, m8, m9⟩ := q3.all
  obtain ⟨r0, r1, r2, g0, g1, g2⟩ := q63.all
  simp only at m0 m1 m2 m3 m4 m5 m6 m7 m8 m9
  clear k3 hh3 q3 q63 hs2
  cases yhas
  · clear hcell3
    have e1 : xagg (lookV k l) = .agg #[.int .u8 0, .int .i64 0, .string ⟨#[]⟩] := by rw [HNO.out HX.out.symm]; rfl
    have e2 : hasB k l = false := HX.out.symm
    have HE := Lib.hid (And.intro e1 e2)
    clear e1 e2
    go_wp2_with fail
    refine bodyPost_ret (v := .tuple #[.agg #[.int .u8 0, .int .i64 0, .string ⟨#[]⟩], .bool false]) (by simp [results, Tryz.results19, go_sem, r0, r1, r2]) rfl ⟨by rw [HE.out.1, HE.out.2], FIN.out _ ?_⟩
    repeat first
      | with_reducible exact Kp.refl _ _
      | with_reducible refine Kp.setCell ?_ (by simp) _
  · obtain ⟨g, rfl, h1, h2, h3, c0, c1, c2⟩ := hcell3 rfl
    obtain ⟨lv, hlv⟩ : ∃ lv, lv = lookV k l := ⟨_, rfl⟩
    rw [← hlv] at c0 c1 c2
    have HE := Lib.hid hlv
    have hw1 : IntKind.i64.wrap ((yat : Int) + 1) = (yat : Int) + 1 := IntWalk.i64_in _ (by omega)
    have hi1 : (0 : Int) ≤ (yat : Int) + 1 := by omega
    have hi2 : (yat : Int) + 1 < (n6 : Int) := by omega
    have ne1 : ¬ g = z6 := by have := ZL.out; omega
    clear hlv h1 h2 h3 hcell3
    go_wp2_with fail
    refine bodyPost_ret (v := .tuple #[xagg lv, .bool true]) (by simp [results, Tryz.results19, go_sem, r0, r1, r2]) rfl ⟨by rw [HE.out, HX.out], FIN.out _ ?_⟩
    repeat first
      | with_reducible exact Kp.refl _ _
      | with_reducible refine Kp.setCell ?_ (by simp) _
end
end Go.Proofs.YtdddhmipifkepaaGreat

namespace Go.Proofs.YtdddhmipifkepaaGreat
open Go Go.RowKit
section
variable {F : Fence} {n : Nat} {P : Program} {ops : Array Oper} {Q : Exit → Act → World → Prop} {S : World → Prop}
def Due (P : Program) (ops : Array Oper) (S : World → Prop) (o : Oper) (v : Value) (a : Act) : Prop :=
  (∀ w, o.about P w a.eval = none) ∧ ((Region.wanted o (yielded ops a.tmps) = true ∧ ∀ w, S w → (execOp a.eval o).run P w = .ok (.value v) w) ∨ (Region.wanted o (yielded ops a.tmps) = false ∧ v = undef))
theorem Due.alike {o : Oper} {v : Value} {a a' : Act} (h : Due P ops S o v a) (e1 : execOp a'.eval o = execOp a.eval o) (e2 : Region.wanted o (yielded ops a'.tmps) = Region.wanted o (yielded ops a.tmps)) (e3 : ∀ w, o.about P w a'.eval = o.about P w a.eval) : Due P ops S o v a' :=
  ⟨fun w => (e3 w).trans (h.1 w), by rw [e1, e2]; exact h.2⟩
def AnyS (F : Fence) (n : Nat) (P : Program) (ops : Array Oper) (Q : Exit → Act → World → Prop) (S : World → Prop) : Nat → Array Bool → Act → World → Prop
  | 0, done, a, w => Region.ready .any ops done = [] ∧ Q .normal a w
  | k + 1, done, a, w => (Region.ready .any ops done = [] → Q .normal a w) ∧ ∀ i ∈ Region.ready .any ops done, wpOpIn F n P ops Q i (fun a' w' => S w' ∧ AnyS F n P ops Q S k (done.setIfInBounds i true) a' w') a w
theorem AnyS.any : ∀ (k : Nat) (done : Array Bool) (a : Act) (w : World), AnyS F n P ops Q S k done a w → wpAnyIn F n P .any ops Q k done a w
  | 0, _, _, _, h => h
  | k + 1, _, _, _, h => ⟨h.1, fun i hi => wpOpIn_mono (fun _ _ h => AnyS.any k _ _ _ h.2) (h.2 i hi)⟩
theorem Due.run {i : Nat} {o : Oper} {v : Value} {a : Act} {w : World} {K : Act → World → Prop} (hro : F.round = none) (hi : ops[i]? = some o) (h : Due P ops S o v a) (hS : S w) (hK : K (a.put o.dst v) w) : wpOpIn F n P ops Q i K a w := by
  have hab : ∀ f, o.about P w a.eval = some f → F.fn f := fun f hf => by rw [h.1 w] at hf; cases hf
  unfold wpOpIn
  simp only [hi]
  rcases h.2 with ⟨e, r⟩ | ⟨e, rfl⟩
  · rw [if_pos e]
    refine ⟨hab, ?_⟩
    rw [hro, Oper.semAt_none, r w hS]
    exact hK
  · rw [e]
    exact ⟨hab, hK⟩
theorem Due.beside {j : Nat} {oi oj : Oper} {v : Value} {K : Act → World → Prop} {a : Act} {w : World} (hro : F.round = none) (hj : ops[j]? = some oj) (hap : oi.apart ops oj = true) (si : ∀ cs b, oi.op ≠ .select cs b) (sj : ∀ cs b, oj.op ≠ .select cs b)
    (hQ : ∀ c a w, Q (.panic c) (a.put oi.dst v) w → Q (.panic c) a w) (h : Due P ops S oi v a) (hw : wpOpIn F n P ops Q j K (a.put oi.dst v) w) : wpOpIn F n P ops Q j (fun a' w' => Due P ops S oi v a' ∧ K (a'.put oi.dst v) w') a w := by
  obtain ⟨p1, p2, p3⟩ := Oper.apart_spec hap
  have put : ∀ (c : Act) (u : Value), Due P ops S oi v c → Due P ops S oi v (c.put oj.dst u) := fun c u hc => hc.alike (execOp_put oi si c oj.dst u p3) (wanted_put oi c oj.dst u p3) (fun w => about_put oi w c oj.dst u p3)
  have swap : ∀ (c : Act) (u : Value) (w' : World), K ((c.put oi.dst v).put oj.dst u) w' → K ((c.put oj.dst u).put oi.dst v) w' := fun c u w' hc => by rw [← Act.put_comm c v u p2]; exact hc
  unfold wpOpIn at hw ⊢
  simp only [hj] at hw ⊢
  rw [wanted_put oj a oi.dst v p1, about_put oj w a oi.dst v p1] at hw
  by_cases hwant : Region.wanted oj (yielded ops a.tmps) = true
  · rw [if_pos hwant] at hw ⊢
    unfold Oper.wpIn at hw ⊢
    rw [about_put oj w a oi.dst v p1, hro, Oper.semAt_none, execOp_put oj sj a oi.dst v p1] at hw
    rw [hro, Oper.semAt_none]
    refine ⟨hw.1, ?_⟩
    have hw2 := hw.2
    generalize (execOp a.eval oj).run P w = r at hw2 ⊢
    have fin : ∀ (e : Ending) (w' : World), (match e, w' with
        | .returned u, w'' => K ((a.put oi.dst v).put oj.dst u) w''
        | .panicked chain, w'' => Q (.panic chain) (a.put oi.dst v) w''
        | .outgrown, _ => LetsOut Q) → (match e, w' with
        | .returned u, w'' => Due P ops S oi v (a.put oj.dst u) ∧ K ((a.put oj.dst u).put oi.dst v) w''
        | .panicked chain, w'' => Q (.panic chain) a w''
        | .outgrown, _ => LetsOut Q) := fun e w' he => by
      cases e with
      | returned u => exact ⟨put a u h, swap a u w' he⟩
      | panicked c => exact hQ _ _ _ he
      | outgrown => exact he
    cases r with
    | halt x w' =>
      cases x <;> first
        | exact hw2.elim
        | exact hQ _ _ _ hw2
    | ok x w' =>
      cases x with
      | value u => exact ⟨put a u h, swap a u w' hw2⟩
      | skip => exact ⟨put a _ h, swap a _ w' hw2⟩
      | defer d =>
        have h' : Due P ops S oi v ({ a with defers := d :: a.defers } : Act) := h.alike rfl rfl (fun _ => rfl)
        refine ⟨put _ undef h', swap _ undef w' ?_⟩
        have e := Act.put_defers a oi.dst v d
        rw [← e]
        exact hw2
      | enter f args => exact ⟨hw2.1, hw2.2.mono fin⟩
      | row rw' args => exact ⟨hw2.1, hw2.2.mono fun u w'' he => ⟨put a u h, swap a u w'' he⟩⟩
      | round l f tmps assign body => exact ⟨hw2.1, hw2.2.mono fin⟩
      | _ => exact hw2.elim
  · rw [if_neg hwant] at hw ⊢
    exact ⟨hw.1, put a _ h, swap a _ w hw.2⟩
theorem AnyS.take {i : Nat} {oi : Oper} {v : Value} (hro : F.round = none) (hi : ops[i]? = some oi) (hs : Region.noSelect ops = true) (hQ : ∀ c a w, Q (.panic c) (a.put oi.dst v) w → Q (.panic c) a w) :
    ∀ (k : Nat) (done : Array Bool) (a : Act) (w : World), (∀ j oj, ops[j]? = some oj → j ≠ i → done.getD j true = false → (∀ e ∈ oj.after, Region.binds .any e = true → e.on ≠ i) → oi.apart ops oj = true) →
      i ∈ Region.ready .any ops done → Due P ops S oi v a → S w → AnyS F n P ops Q S k (done.setIfInBounds i true) (a.put oi.dst v) w → AnyS F n P ops Q S (k + 1) done a w
  | k, done, a, w, hfree, hr, hd, hS, H => by
    refine ⟨fun e => absurd hr (by rw [e]; exact List.not_mem_nil), fun j hj => ?_⟩
    by_cases hji : j = i
    · subst hji; exact hd.run hro hi hS ⟨hS, H⟩
    · have hj2 := ready_mono hj hji
      cases k with
      | zero => rw [H.1] at hj2; cases hj2
      | succ k =>
        obtain ⟨hun, oj, hoj, hall⟩ := mem_ready.1 hj
        have hi0 := (mem_ready.1 hr).1
        have hnot : ∀ e ∈ oj.after, Region.binds .any e = true → e.on ≠ i := fun e he hb e2 => by
          have h1 := hall e he hb
          rw [e2] at h1
          by_cases hlt : i < done.size
          · rw [Array.getD_eq_getD_getElem?, Array.getElem?_eq_getElem hlt] at h1 hi0
            simp only [Option.getD_some] at h1 hi0
            rw [h1] at hi0
            cases hi0
          · rw [Array.getD_eq_getD_getElem?, Array.getElem?_eq_none (by omega)] at hi0
            cases hi0
        have h2 := hd.beside hro hoj (hfree j oj hoj hji hun hnot) (Region.noSelect_spec hs i oi · · hi) (Region.noSelect_spec hs j oj · · hoj) hQ (H.2 j hj2)
        refine wpOpIn_mono (fun a' w' h3 => ⟨h3.2.1, AnyS.take hro hi hs hQ k (done.setIfInBounds j true) a' w' (fun x ox hx hxi hxu hno => ?_) (ready_mono hr (Ne.symm hji)) h3.1 h3.2.1 ?_⟩) h2
        · refine hfree x ox hx hxi ?_ hno
          by_cases hjx : j = x
          · subst hjx; exact hun
          · rwa [getD_set_ne true hjx] at hxu
        · rw [Array.setIfInBounds_comm _ _ hji]
          exact h3.2.2
theorem AnyS.first {i : Nat} {oi : Oper} {v : Value} {k : Nat} {done : Array Bool} {a : Act} {w : World} (hro : F.round = none) (hi : ops[i]? = some oi) (hs : Region.noSelect ops = true) (hf : Region.free .any ops done i = true) (hr : (Region.ready .any ops done).contains i = true)
    (hQ : ∀ c a w, Q (.panic c) (a.put oi.dst v) w → Q (.panic c) a w) (hd : Due P ops S oi v a) (hS : S w) (H : AnyS F n P ops Q S k (done.setIfInBounds i true) (a.put oi.dst v) w) : AnyS F n P ops Q S (k + 1) done a w :=
  AnyS.take hro hi hs hQ k done a w (Region.free_spec hi hf) (by simpa using hr) hd hS H
theorem AnyS.one {i : Nat} {o : Oper} {k : Nat} {done : Array Bool} {a : Act} {w : World} (hr : Region.ready .any ops done = [i]) (ho : ops[i]? = some o)
    (h : ∀ K : Act → World → Prop, (∀ a' w', S w' ∧ AnyS F n P ops Q S k (done.setIfInBounds i true) a' w' → K a' w') → if Region.wanted o (yielded ops a.tmps) = true then Oper.wpIn F n P o a w K Q else (∀ f, o.about P w a.eval = some f → F.fn f) ∧ K (a.put o.dst undef) w) : AnyS F n P ops Q S (k + 1) done a w :=
  ⟨fun e => (by rw [hr] at e; cases e), fun j hj => by
    rw [hr, List.mem_singleton] at hj
    subst hj
    exact wpOpIn_step ho (fun K' hK => h K' hK)⟩
theorem AnyS.done {done : Array Bool} {a : Act} {w : World} (hr : Region.ready .any ops done = []) (h : Q .normal a w) : ∀ k, AnyS F n P ops Q S k done a w
  | 0 => ⟨hr, h⟩
  | _ + 1 => ⟨fun _ => h, by rw [hr]; simp⟩
theorem anyS_region {id : Nat} {a : Act} {w : World} (hm : P.follows .mixedOrders = true) (h : AnyS F n P ops Q S ops.size (Array.replicate ops.size false) a w.drew) : (Code.region id ops true).wpIn F n P Q a w :=
  wpIn_region_any hm (h.any _ _ _ _)
end
end Go.Proofs.YtdddhmipifkepaaGreat

namespace Go.Proofs.YtdddhmipifkepaaGreat
set_option maxRecDepth 100000
open Go.RowKit
def dgs (n : Nat) : Nat → List Nat
  | 0 => []
  | k + 1 => dgs n k ++ (if n.testBit k then [k] else [])
theorem dgs_len (n : Nat) : ∀ k, (dgs n k).length = cnt n k
  | 0 => rfl
  | k + 1 => by
    unfold dgs cnt
    rw [List.length_append, dgs_len n k]
    cases n.testBit k <;> rfl
theorem dgs_back (n : Nat) : ∀ (k i x : Nat), (dgs n k)[i]? = some x → x < k ∧ n.testBit x = true ∧ cnt n x = i
  | 0, i, x, h => by simp [dgs] at h
  | k + 1, i, x, h => by
    unfold dgs at h
    by_cases hi : i < (dgs n k).length
    · rw [List.getElem?_append_left hi] at h
      obtain ⟨a, b, c⟩ := dgs_back n k i x h
      exact ⟨by omega, b, c⟩
    · rw [List.getElem?_append_right (by omega)] at h
      cases hb : n.testBit k
      · rw [hb] at h; simp at h
      · rw [hb] at h
        have h' : i - (dgs n k).length = 0 ∧ k = x := by
          cases e : i - (dgs n k).length with
          | zero => rw [e] at h; simpa using h
          | succ m => rw [e] at h; simp at h
        obtain ⟨h1, rfl⟩ := h'
        exact ⟨by omega, hb, by rw [← dgs_len]; omega⟩
theorem dgs_join (n : Nat) (L : Nat → List Pr) (h : ∀ d, n.testBit d = false → L d = []) : ∀ k, (dgs n k).flatMap L = (List.range k).flatMap L
  | 0 => rfl
  | k + 1 => by
    rw [List.range_succ, List.flatMap_append, ← dgs_join n L h k]
    show (dgs n k ++ (if n.testBit k then [k] else [])).flatMap L = _
    rw [List.flatMap_append]
    cases hb : n.testBit k
    · simp [h k hb]
    · simp
section
def Okay (b most : Nat) (M0 : Cells) (root : Nat) (A : World) : Prop := ∃ M F, Ar A b most M F ∧ Pres M0 M root
def Safe (b most : Nat) (A : World) (q : Nat) : Prop := ∃ M F, Ar A b most M F ∧ ¬ F q
def Vt (t : Nat) : Prop := t = 26 ∨ t = 109 ∨ t = 36 ∨ t = 3
structure Kv (n0 b most : Nat) (M0 : Cells) (root : Nat) (A B : World) : Prop where
  ok : Okay b most M0 root A → Okay b most M0 root B
  same : ∀ q cur t, n0 ≤ q → Vt t → A.heap[q]? = some (.cells cur t (0, 0)) → Safe b most A q → B.heap[q]? = some (.cells cur t (0, 0)) ∧ Safe b most B q
variable {n0 b most root : Nat} {M0 : Cells} {A B C : World}
theorem Okay.below (h : Okay b most M0 root A) (hb : Below A.heap.size A B) : Okay b most M0 root B := by
  obtain ⟨M, F, h1, h2⟩ := h
  exact ⟨M, F, h1.below hb, h2⟩
theorem Safe.below {q : Nat} (h : Safe b most A q) (hb : Below A.heap.size A B) : Safe b most B q := by
  obtain ⟨M, F, h1, h2⟩ := h
  exact ⟨M, F, h1.below hb, h2⟩
theorem Okay.new {q : Nat} (h : Okay b most M0 root A) (hb : Below A.heap.size A B) (hq : A.heap.size ≤ q) : Safe b most B q := by
  obtain ⟨M, F, h1, _⟩ := h
  exact ⟨M, F, h1.below hb, fun hf => by have := h1.lt hf; omega⟩
theorem Kv.trans (h : Kv n0 b most M0 root A B) (k : Kv n0 b most M0 root B C) : Kv n0 b most M0 root A C :=
  ⟨fun o => k.ok (h.ok o), fun q cur t hq ht e s => by
    obtain ⟨e1, s1⟩ := h.same q cur t hq ht e s
    exact k.same q cur t hq ht e1 s1⟩
theorem Kv.below (hb : Below A.heap.size A B) : Kv n0 b most M0 root A B :=
  ⟨fun o => o.below hb, fun q _ _ _ _ e s => ⟨(hb.block q (Array.getElem?_eq_some_iff.1 e).1).trans e, s.below hb⟩⟩
theorem Ar.cut {M : Cells} {F : Nat → Prop} {x : Nat} {o : Obj} (h : Ar A b most M F) (hx : A.heap[x]? = some o) (hc : o.isCells = false) : Ar A b most M (fun k => F k ∧ k ≠ x) := by
  have ne : ∀ {k : Nat} {cur : Array Value} {t : Nat} {z : Nat × Nat}, A.heap[k]? = some (.cells cur t z) → k ≠ x := fun hk e => by
    subst e
    rw [hx] at hk
    cases hk
    cases hc
  have own : ∀ {v : Value} {base e size n : Nat} {xs : List Value}, A.ownsRow base e size v n xs → ∀ k, v.ownBlock = some k → k ≠ x := fun ho k hk => by
    obtain ⟨cur, hcur⟩ := own_type ho k hk
    exact ne hcur
  obtain ⟨n, vc, vf, fr, H, h⟩ := h
  refine ⟨n, vc, vf, fr, H, ⟨h.m1, h.m2, h.row, h.cs, h.fs, fun j c r e => ?_, h.inj, h.nd, h.fi, h.len, h.le, ⟨h.fb, ne h.row⟩, fun k hk => ⟨h.fc k hk, own h.cs k hk⟩, fun k hk => ⟨h.ff k hk, own h.fs k hk⟩, fun k hk => h.lt k hk.1⟩⟩
  obtain ⟨i1, i2, i3, v, k, h1, h2, h3, h4, h5, h6, h7, h8⟩ := h.cel j c r e
  exact ⟨i1, i2, i3, v, k, h1, h2, h3, ⟨h4, ne h1⟩, fun g hg => ⟨h5 g hg, own h2 g hg⟩, fun g hg => ⟨⟨(h6 g hg).1, own h3 g hg⟩, (h6 g hg).2⟩, h7, h8⟩
theorem kp_putObj {x : Nat} {o : Obj} : Kp (fun q => q = x) A (A.putObj x o) :=
  ⟨rfl, rfl, rfl, by simp [World.putObj], fun k _ hk => World.putObj_heap_other hk⟩
theorem Kv.putObj {x : Nat} {o o' : Obj} (hx : A.heap[x]? = some o) (hc : o.isCells = false) : Kv n0 b most M0 root A (A.putObj x o') := by
  have ar : ∀ {M F}, Ar A b most M F → Ar (A.putObj x o') b most M (fun k => F k ∧ k ≠ x) := fun h => (h.cut hx hc).kp kp_putObj (fun k hk => hk.2)
  refine ⟨fun ⟨M, F, h1, h2⟩ => ⟨M, _, ar h1, h2⟩, fun q cur t _ _ e ⟨M, F, h1, h2⟩ => ⟨?_, M, _, ar h1, fun hf => h2 hf.1⟩⟩
  have hne : q ≠ x := fun e2 => by
    subst e2
    rw [hx] at e
    cases e
    cases hc
  exact (World.putObj_heap_other hne).trans e
def Mi (n0 b most : Nat) (A : World) (t size : Nat) (v : Value) (n : Nat) (xs : List Value) : Prop := A.ownsRow n0 t size v n xs ∧ ∀ q, v.ownBlock = some q → Safe b most A q
theorem Mi.kv {t size n : Nat} {v : Value} {xs : List Value} (h : Mi n0 b most A t size v n xs) (ht : Vt t) (hk : Kv n0 b most M0 root A B) : Mi n0 b most B t size v n xs := by
  obtain ⟨ho, hs⟩ := h
  refine ⟨⟨ho.1, ?_⟩, fun q hq => ?_⟩
  · rcases ho.2 with hn | ⟨g, cap, cur, rfl, hg, e, hr⟩
    · exact .inl hn
    · exact .inr ⟨g, cap, cur, rfl, hg, (hk.same g cur t hg ht e (hs g rfl)).1, hr⟩
  · obtain ⟨cur, hcur⟩ := own_type ho q hq
    exact (hk.same q cur t (own_blk ho q hq).1 ht hcur (hs q hq)).2
theorem Mi.below {t size n : Nat} {v : Value} {xs : List Value} (h : Mi n0 b most A t size v n xs) (hb : Below A.heap.size A B) : Mi n0 b most B t size v n xs :=
  ⟨(Kp.of_below hb (fun _ => False)).own h.1 (fun _ _ h => h), fun q hq => (h.2 q hq).below hb⟩
structure VS (n0 b bh most z4 z9 : Nat) (c : Hc) (V K : Value) (A : World) : Prop where
  lb : C2 A z4 26 (ap b) (.pointer (some ⟨bh, 0, none⟩))
  cb : C5 A z9 109 (.int .u32 c.owner) (.int .u32 c.a) (.int .u32 c.b) V K
  vr : Mi n0 b most A 36 3 V c.vals.length (c.vals.flatMap cells3)
  kr : Mi n0 b most A 3 1 K c.kids.length (nums (ns c.kids))
  n4 : n0 ≤ z4 ∧ n0 ≤ z9
  sf : Safe b most A z4 ∧ Safe b most A z9
theorem VS.kv {bh z4 z9 : Nat} {c : Hc} {V K : Value} (h : VS n0 b bh most z4 z9 c V K A) (hk : Kv n0 b most M0 root A B) : VS n0 b bh most z4 z9 c V K B := by
  obtain ⟨e4, s4⟩ := hk.same z4 _ _ h.n4.1 (.inl rfl) h.lb h.sf.1
  obtain ⟨e9, s9⟩ := hk.same z9 _ _ h.n4.2 (.inr (.inl rfl)) h.cb h.sf.2
  exact ⟨e4, e9, h.vr.kv (.inr (.inr (.inl rfl))) hk, h.kr.kv (.inr (.inr (.inr rfl))) hk, h.n4, s4, s9⟩
theorem VS.below {bh z4 z9 : Nat} {c : Hc} {V K : Value} (h : VS n0 b bh most z4 z9 c V K A) (hb : Below A.heap.size A B) : VS n0 b bh most z4 z9 c V K B :=
  ⟨h.lb.below hb, h.cb.below hb, h.vr.below hb, h.kr.below hb, h.n4, h.sf.1.below hb, h.sf.2.below hb⟩
end
end Go.Proofs.YtdddhmipifkepaaGreat

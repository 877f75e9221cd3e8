/- Several texts in one. -/
import Derived.Test.YtacoingheieceaaGreatMA30
import Derived.IntWalk
import Derived.RangeFuncNested
import Derived.RangeFuncBound
import Derived.RangeFuncLeaves
import Derived.Shelf.Abstract
import Derived.Test.YtacoingheieceaaGreatMA01
/- Package hamt: Put, by the books. -/
namespace Go.Proofs.YtacoingheieceaaGreat
set_option maxRecDepth 100000
open Go.RowKit
/-- A map that has all the keys that it may have. -/
def Long (l : List Pr) : Prop := 1024 ≤ l.length
/-- The boxes of Put. -/
structure Q10 (W : World) (z5 z6 z7 z8 z10 b bh N root : Nat) (k v : Ky) : Prop where
  lb : C2 W z5 30 (ap b) (.pointer (some ⟨bh, 0, none⟩))
  mb : C2 W z6 33 (.int .i64 (N : Int)) (.int .i64 (root : Int))
  kb : C3 W z7 43 (.int .u8 k.1) (.int .i64 k.2.1) (.string k.2.2)
  vb : C3 W z8 43 (.int .u8 v.1) (.int .i64 v.2.1) (.string v.2.2)
  rb : C2 W z10 33 (.int .i64 0) (.int .i64 0)
theorem Q10.kp {W W' : World} {z5 z6 z7 z8 z10 b bh N root : Nat} {k v : Ky} {G : Nat → Prop} (h : Q10 W z5 z6 z7 z8 z10 b bh N root k v) (hk : Kp G W W') (hn : ∀ q, q = z5 ∨ q = z6 ∨ q = z7 ∨ q = z8 ∨ q = z10 → ¬ G q) : Q10 W' z5 z6 z7 z8 z10 b bh N root k v :=
  ⟨h.lb.kp hk (hn _ (.inl rfl)), h.mb.kp hk (hn _ (.inr (.inl rfl))), h.kb.kp hk (hn _ (.inr (.inr (.inl rfl)))), h.vb.kp hk (hn _ (.inr (.inr (.inr (.inl rfl))))), h.rb.kp hk (hn _ (.inr (.inr (.inr (.inr rfl)))))⟩
section
variable {most : Nat} {M : Cells} {F : Nat → Prop} {hs : Ky → Nat} {l : List Pr}
set_option maxHeartbeats 6000000 in
theorem vPut (b bh seed root : Nat) (k v : Ky) (ow : Int) (P : Nat → Nat) (w : World) (h : Ar w b most M F) (hm : most ≤ 1048576) (hb : Bk (most + 1) M [] P [root]) (hP : ∀ j, P j ≤ 576460752303423488) (hT : Mp M hs root l) (hh : Hs w bh seed) (nbh : ¬ F bh) (hhs : ∀ q, OkK q → hs q = hashN seed q.1 q.2.1 q.2.2) (hkl : ∀ q ∈ l, OkK q.1) (hk : OkK k) (hlen : l.length ≤ 1024) :
    Calls Tryz.prog 18 #[land b bh, .agg #[.int .i64 (l.length : Nat), .int .i64 (root : Nat)], xagg k, xagg v, .int .u32 ow] w fun e w' =>
      (e = .returned (.tuple #[.agg #[.int .i64 0, .int .i64 0], .int .i64 12]) ∧ hasB k l = false ∧ Long l ∧ Kp (fun q => q = bh) w w' ∧ Hs w' bh seed) ∨
      (e = .returned (.tuple #[.agg #[.int .i64 0, .int .i64 0], .int .i64 5]) ∧ most < live (most + 1) M + 16 ∧ Kp (fun q => q = bh) w w' ∧ Hs w' bh seed) ∨
      ∃ n M', e = .returned (.tuple #[.agg #[.int .i64 ((putL hs (k, v) l).length : Nat), .int .i64 (n : Nat)], .int .i64 0]) ∧ (hasB k l = true ∨ ¬ Long l) ∧ 1 ≤ n ∧ MapR most M P hs root ow (putL hs (k, v) l) n M' ∧ StpH w w' b bh seed most M' F := by
  have hbl := hh.lt
  have hFlt : ∀ q, F q → q < w.heap.size := fun q hq => h.lt hq
  have hput := putL_length (p := (k, v)) hT.srt
  simp only at hput
  have HWAY := Lib.hid (fun (W : World) (hW : Below w.heap.size w W) => vwayP (l := l) b bh seed root k v ow P W (h.below hW) hm hb hP hT (hh.below hW) nbh hhs hkl hk hlen)
  have HLK := Lib.hid (vlacks b bh)
  obtain ⟨W0, hW0⟩ : ∃ W0, W0 = (((((w.alloc (.cells #[ap b, .pointer (some ⟨bh, 0, none⟩)] 30)).alloc (.cells #[.int .i64 (l.length : Int), .int .i64 (root : Int)] 33)).alloc (.cells #[.int .u8 k.1, .int .i64 k.2.1, .string k.2.2] 43)).alloc (.cells #[.int .u8 v.1, .int .i64 v.2.1, .string v.2.2] 43)).alloc (.cells #[.int .i64 0, .int .i64 0] 33)) := ⟨_, rfl⟩
  have hsz : W0.heap.size = w.heap.size + 1 + 1 + 1 + 1 + 1 := by rw [hW0]; simp
  have hb0 : Below w.heap.size w W0 := by rw [hW0]; exact (((((Below.refl _ w).alloc (Nat.le_refl _) _).alloc (by simp) _).alloc (by simp; omega) _).alloc (by simp; omega) _).alloc (by simp; omega) _
  have q0 : Q10 W0 w.heap.size (w.heap.size + 1) (w.heap.size + 1 + 1) (w.heap.size + 1 + 1 + 1) (w.heap.size + 1 + 1 + 1 + 1) b bh l.length root k v := by
    refine ⟨?_, ?_, ?_, ?_, ?_⟩
    · rw [hW0]; exact ((((C2.new w 30 (ap b) (.pointer (some ⟨bh, 0, none⟩))).alloc _).alloc _).alloc _).alloc _
    · have h := (((C2.new (w.alloc (.cells #[ap b, .pointer (some ⟨bh, 0, none⟩)] 30)) 33 (.int .i64 (l.length : Int)) (.int .i64 (root : Int))).alloc (.cells #[.int .u8 k.1, .int .i64 k.2.1, .string k.2.2] 43)).alloc (.cells #[.int .u8 v.1, .int .i64 v.2.1, .string v.2.2] 43)).alloc (.cells #[.int .i64 0, .int .i64 0] 33)
      rw [hW0]
      simpa using h
    · have h := ((C3.new ((w.alloc (.cells #[ap b, .pointer (some ⟨bh, 0, none⟩)] 30)).alloc (.cells #[.int .i64 (l.length : Int), .int .i64 (root : Int)] 33)) 43 (.int .u8 k.1) (.int .i64 k.2.1) (.string k.2.2)).alloc (.cells #[.int .u8 v.1, .int .i64 v.2.1, .string v.2.2] 43)).alloc (.cells #[.int .i64 0, .int .i64 0] 33)
      rw [hW0]
      simpa using h
    · have h := (C3.new (((w.alloc (.cells #[ap b, .pointer (some ⟨bh, 0, none⟩)] 30)).alloc (.cells #[.int .i64 (l.length : Int), .int .i64 (root : Int)] 33)).alloc (.cells #[.int .u8 k.1, .int .i64 k.2.1, .string k.2.2] 43)) 43 (.int .u8 v.1) (.int .i64 v.2.1) (.string v.2.2)).alloc (.cells #[.int .i64 0, .int .i64 0] 33)
      rw [hW0]
      simpa using h
    · have h := C2.new ((((w.alloc (.cells #[ap b, .pointer (some ⟨bh, 0, none⟩)] 30)).alloc (.cells #[.int .i64 (l.length : Int), .int .i64 (root : Int)] 33)).alloc (.cells #[.int .u8 k.1, .int .i64 k.2.1, .string k.2.2] 43)).alloc (.cells #[.int .u8 v.1, .int .i64 v.2.1, .string v.2.2] 43)) 33 (.int .i64 0) (.int .i64 0)
      rw [hW0]
      simpa using h
  obtain ⟨z5, hz5⟩ : ∃ z, z = w.heap.size := ⟨_, rfl⟩
  obtain ⟨z6, hz6⟩ : ∃ z, z = w.heap.size + 1 := ⟨_, rfl⟩
  obtain ⟨z7, hz7⟩ : ∃ z, z = w.heap.size + 1 + 1 := ⟨_, rfl⟩
  obtain ⟨z8, hz8⟩ : ∃ z, z = w.heap.size + 1 + 1 + 1 := ⟨_, rfl⟩
  obtain ⟨z10, hz10⟩ : ∃ z, z = w.heap.size + 1 + 1 + 1 + 1 := ⟨_, rfl⟩
  have HW0 := Lib.hid hW0
  have HB0 := Lib.hid hb0
  have HZZ := Lib.hid (And.intro hz5 (And.intro hz6 (And.intro hz7 (And.intro hz8 hz10))))
  have QQ := Lib.hid q0
  have ZL := Lib.hid (show bh < w.heap.size ∧ z5 = w.heap.size ∧ z6 = w.heap.size + 1 ∧ z7 = w.heap.size + 2 ∧ z8 = w.heap.size + 3 ∧ z10 = w.heap.size + 4 ∧ W0.heap.size = w.heap.size + 5 from ⟨hbl, hz5, hz6, hz7, hz8, hz10, hsz⟩)
  have HF := Lib.hid (And.intro hFlt (And.intro nbh (And.intro hput hlen)))
  have x0 := q0.lb.c0
  have x1 := q0.lb.c1
  clear h hm hb hP hT hh nbh hhs hkl hk hlen hFlt hput hW0 hb0 hsz q0 hbl hz5 hz6 hz7 hz8 hz10
  go_enter Tryz.func18, Tryz.ntmps18
  go_upto_region 1 with fail
  rw [← HW0.out]
  clear HW0
  obtain ⟨e1, e2, e3, e4, e5⟩ := HZZ.out
  rw [← e5, ← e4, ← e3, ← e2, ← e1] at QQ ⊢
  rw [← e1] at x0 x1
  clear e1 e2 e3 e4 e5 HZZ
  go_wp2_with fail
  refine (HLK.out _).mono ?_
  rintro e w1 ⟨rfl, hb1⟩
  have Q1 := Lib.hid (QQ.out.kp (Kp.of_below hb1 (fun _ => False)) (fun _ _ => id))
  have HB1 := Lib.hid (HB0.out.trans (hb1.mono HB0.out.size))
  have S1 := Lib.hid hb1.size
  clear hb1 x0 x1 HLK QQ
  have x0 := Q1.out.lb.c0
  have x1 := Q1.out.lb.c1
  have x2 := Q1.out.mb.c0
  have x3 := Q1.out.mb.c1
  obtain ⟨k0, k1, k2, _⟩ := Q1.out.kb.all
  go_wp2_with fail
  refine (HWAY.out _ HB1.out).mono ?_
  rintro e w2 ⟨⟨yb, ybh, yow, yg, yroot, A4, n4, c4, A5, n5, c5, A6, n6, c6, yat, yhas⟩, rfl, hx, hk2, hh2, hput⟩
  simp only at hx
  clear x0 x1 x2 x3 k0 k1 k2
  have Q2 := Lib.hid (Q1.out.kp hk2 (fun q hq => by have := ZL.out; omega))
  have HP2 := Lib.hid hput
  have HK2 := Lib.hid (And.intro hk2 hh2)
  have HX := Lib.hid hx
  clear hput hk2 hh2 hx HWAY Q1
  go_upto_region 4 with fail
  have q3 := WC.new w2 ⟨yb, ybh, yow, yg, yroot, A4, n4, c4, A5, n5, c5, A6, n6, c6, yat, yhas⟩
  have k3 : Kp (fun q => q = bh) w1 (w2.alloc (.cells #[ap yb, .pointer (some ⟨ybh, 0, none⟩), .int .u32 yow, .int .u64 yg, .int .i64 yroot, .slice A4 n4 c4, .slice A5 n5 c5, .slice A6 n6 c6, .int .i64 yat, .bool yhas] 138)) := HK2.out.1.alloc _
  have hh3 := HK2.out.2.alloc (.cells #[ap yb, .pointer (some ⟨ybh, 0, none⟩), .int .u32 yow, .int .u64 yg, .int .i64 yroot, .slice A4 n4 c4, .slice A5 n5 c5, .slice A6 n6 c6, .int .i64 yat, .bool yhas] 138)
  have kp3 : Kp (fun q => q = bh) w2 (w2.alloc (.cells #[ap yb, .pointer (some ⟨ybh, 0, none⟩), .int .u32 yow, .int .u64 yg, .int .i64 yroot, .slice A4 n4 c4, .slice A5 n5 c5, .slice A6 n6 c6, .int .i64 yat, .bool yhas] 138)) := (Kp.refl _ w2).alloc _
  have hput := HP2.out _ kp3 hh3
  have Q3 := Lib.hid (Q2.out.kp ((Kp.refl (fun _ => False) w2).alloc (.cells #[ap yb, .pointer (some ⟨ybh, 0, none⟩), .int .u32 yow, .int .u64 yg, .int .i64 yroot, .slice A4 n4 c4, .slice A5 n5 c5, .slice A6 n6 c6, .int .i64 yat, .bool yhas] 138)) (fun _ _ => id))
  have hz12 : w1.heap.size ≤ w2.heap.size := HK2.out.1.size
  have hs3 : w2.heap.size < (w2.alloc (.cells #[ap yb, .pointer (some ⟨ybh, 0, none⟩), .int .u32 yow, .int .u64 yg, .int .i64 yroot, .slice A4 n4 c4, .slice A5 n5 c5, .slice A6 n6 c6, .int .i64 yat, .bool yhas] 138)).heap.size := by simp
  clear kp3 HP2 HK2 Q2
  simp only [wcells] at q3
  generalize w2.alloc (.cells #[ap yb, .pointer (some ⟨ybh, 0, none⟩), .int .u32 yow, .int .u64 yg, .int .i64 yroot, .slice A4 n4 c4, .slice A5 n5 c5, .slice A6 n6 c6, .int .i64 yat, .bool yhas] 138) = w3 at *
  generalize w2.heap.size = z12 at *
  have HK3 := Lib.hid ((Kp.of_below HB1.out (fun q => q = bh)).trans k3 (fun q h => .inl h))
  have HH3 := Lib.hid hh3
  have HPUT := Lib.hid hput
  have HWC := Lib.hid q3
  have ZZ := Lib.hid (show w.heap.size + 5 ≤ z12 ∧ z12 < w3.heap.size by have := ZL.out; have := S1.out; omega)
  obtain ⟨m0, m1, m2, m3, m4, m5, m6, m7, m8, m9⟩ := q3.all
  obtain ⟨k0, k1, k2, _⟩ := Q3.out.kb.all
  obtain ⟨v0, v1, v2, _⟩ := Q3.out.vb.all
  obtain ⟨x2, x3, g2, g3⟩ := Q3.out.mb.all
  obtain ⟨r0, r1, g0, g1⟩ := Q3.out.rb.all
  clear k3 hh3 hput q3 hz12 hs3
  have hN : (0 : Int) ≤ (l.length : Int) ∧ (l.length : Int) ≤ 1024 := by have := HF.out.2.2.2; omega
  have hw1 : IntKind.i64.wrap ((l.length : Int) + 1) = (l.length : Int) + 1 := IntWalk.i64_in _ (by omega)
  have FULL : ∀ w4 w9, most < live (most + 1) M + 16 → Kp (fun q => q = bh) w3 w4 → Hs w4 bh seed → Kp (fun q => q = z10 ∨ q = z6) w4 w9 → most < live (most + 1) M + 16 ∧ Kp (fun q => q = bh) w w9 ∧ Hs w9 bh seed := fun w4 w9 h1 h2 h3 h4 => by
    have h5 := ZL.out
    exact ⟨h1, (HK3.out.trans h2 (fun q h => .inl h)).trans h4 (fun q h => .inr (by omega)), h3.kp h4 (by omega)⟩
  have LONG : ∀ w9, Kp (fun q => q = z10 ∨ q = z6) w3 w9 → Kp (fun q => q = bh) w w9 ∧ Hs w9 bh seed := fun w9 h4 => by
    have h5 := ZL.out
    exact ⟨HK3.out.trans h4 (fun q h => .inr (by omega)), HH3.out.kp h4 (by omega)⟩
  have OK : ∀ w4 w9 M', StpH w3 w4 b bh seed most M' F → Kp (fun q => q = z10 ∨ q = z6) w4 w9 → StpH w w9 b bh seed most M' F := fun w4 w9 M' h1 h2 => by
    have h5 := ZL.out
    have h6 := ZZ.out
    exact StpH.close HF.out.1 h5.1 HK3.out h1 h2 (fun q h => by omega)
  have QOK : ∀ w4 M', StpH w3 w4 b bh seed most M' F → Q10 w4 z5 z6 z7 z8 z10 b bh l.length root k v ∧ WC w4 z12 ⟨yb, ybh, yow, yg, yroot, A4, n4, c4, A5, n5, c5, A6, n6, c6, yat, yhas⟩ := fun w4 M' h1 => by
    have h5 := ZL.out
    have h6 := ZZ.out
    have hn : ∀ z, w.heap.size ≤ z → ¬ (F z ∨ z = bh) := fun z hz h => h.elim (fun h => by have := HF.out.1 z h; omega) (fun h => by omega)
    exact ⟨Q3.out.kp h1.kp (fun q hq => hn q (by omega)), HWC.out.kp h1.kp (hn z12 (by omega))⟩
  have FULL := Lib.hid FULL
  have LONG := Lib.hid LONG
  have OK := Lib.hid OK
  have QOK := Lib.hid QOK
  have ne1 : ¬ z6 = z10 := by have := ZL.out; omega
  have ne2 : ¬ z10 = z6 := by have := ZL.out; omega
  cases yhas
  · by_cases hc : 1024 ≤ l.length
    · have hc' : (1024 : Int) ≤ (l.length : Int) := by omega
      have hc := Lib.hid (show Long l from hc)
      have FE := Lib.hid (fun w9 h9 => LONG.out w9 h9)
      go_upto_region 5 with fail
      clear hc' m0 m1 m2 m3 m4 m5 m6 m7 m8 k0 k1 k2 v0 v1 v2 hN
      go_wp2_with fail
      refine bodyPost_ret (v := .tuple #[.agg #[.int .i64 0, .int .i64 0], .int .i64 12]) (by simp [results, Tryz.results18, go_sem, r0, r1]) rfl (.inl ⟨rfl, HX.out.symm, hc.out, FE.out _ ?_⟩)
      repeat first
        | with_reducible exact Kp.refl _ _
        | with_reducible refine Kp.setCell ?_ (by simp) _
    · have hc' : ¬ (1024 : Int) ≤ (l.length : Int) := by omega
      have hc := Lib.hid (show ¬ Long l from fun h => by unfold Long at h; omega)
      go_upto_region 6 with fail
      clear hc'
      go_wp2_with fail
      refine HPUT.out.mono ?_
      rintro e w4 ⟨a, c, rfl, (⟨rfl, rfl, h1, h2, h3⟩ | ⟨n, M', rfl, rfl, n1, h1, h2⟩)⟩
      · have q4 := Q3.out.kp h2 (fun q hq => by have := ZL.out; omega)
        obtain ⟨r0, r1, g0, g1⟩ := q4.rb.all
        have FE := Lib.hid (fun w9 h9 => FULL.out w4 w9 h1 h2 h3 h9)
        clear h1 h2 h3 q4 m0 m1 m2 m3 m4 m5 m6 m7 m8 m9 k0 k1 k2 v0 v1 v2 x2 x3 g2 g3
        go_wp2_with fail
        refine bodyPost_ret (v := .tuple #[.agg #[.int .i64 0, .int .i64 0], .int .i64 5]) (by simp [results, Tryz.results18, go_sem, r0, r1]) rfl (.inr (.inl ⟨rfl, FE.out _ ?_⟩))
        repeat first
          | with_reducible exact Kp.refl _ _
          | with_reducible refine Kp.setCell ?_ (by simp) _
      · have q4 := QOK.out w4 M' h2
        obtain ⟨r0, r1, g0, g1⟩ := q4.1.rb.all
        obtain ⟨x2, x3, g2, g3⟩ := q4.1.mb.all
        obtain ⟨m0, m1, m2, m3, m4, m5, m6, m7, m8, m9⟩ := q4.2.all
        have FE := Lib.hid (fun w9 h9 => OK.out w4 w9 M' h2 h9)
        have HM := Lib.hid (And.intro n1 h1)
        clear n1 h1 h2 q4 k0 k1 k2 v0 v1 v2
        go_wp2_with fail
        refine bodyPost_ret (v := .tuple #[.agg #[.int .i64 ((l.length : Int) + 1), .int .i64 (n : Nat)], .int .i64 0]) (by simp [results, Tryz.results18, go_sem, r0, r1]) rfl (.inr (.inr ⟨n, M', ?_, (.inr hc.out), HM.out.1, HM.out.2, FE.out _ ?_⟩))
        · have e1 := HF.out.2.2.1
          rw [← HX.out] at e1
          rw [if_neg (by decide)] at e1
          rw [e1]
          rfl
        · repeat first
            | with_reducible exact Kp.refl _ _
            | with_reducible refine Kp.setCell ?_ (by simp) _
  · go_upto_region 6 with fail
    go_wp2_with fail
    refine HPUT.out.mono ?_
    rintro e w4 ⟨a, c, rfl, (⟨rfl, rfl, h1, h2, h3⟩ | ⟨n, M', rfl, rfl, n1, h1, h2⟩)⟩
    · have q4 := Q3.out.kp h2 (fun q hq => by have := ZL.out; omega)
      obtain ⟨r0, r1, g0, g1⟩ := q4.rb.all
      have FE := Lib.hid (fun w9 h9 => FULL.out w4 w9 h1 h2 h3 h9)
      clear h1 h2 h3 q4 m0 m1 m2 m3 m4 m5 m6 m7 m8 m9 k0 k1 k2 v0 v1 v2 x2 x3 g2 g3
      go_wp2_with fail
      refine bodyPost_ret (v := .tuple #[.agg #[.int .i64 0, .int .i64 0], .int .i64 5]) (by simp [results, Tryz.results18, go_sem, r0, r1]) rfl (.inr (.inl ⟨rfl, FE.out _ ?_⟩))
      repeat first
        | with_reducible exact Kp.refl _ _
        | with_reducible refine Kp.setCell ?_ (by simp) _
    · have q4 := QOK.out w4 M' h2
      obtain ⟨r0, r1, g0, g1⟩ := q4.1.rb.all
      obtain ⟨x2, x3, g2, g3⟩ := q4.1.mb.all
      obtain ⟨m0, m1, m2, m3, m4, m5, m6, m7, m8, m9⟩ := q4.2.all
      have FE := Lib.hid (fun w9 h9 => OK.out w4 w9 M' h2 h9)
      have HM := Lib.hid (And.intro n1 h1)
      clear n1 h1 h2 q4 k0 k1 k2 v0 v1 v2
      go_wp2_with fail
      refine bodyPost_ret (v := .tuple #[.agg #[.int .i64 (l.length : Nat), .int .i64 (n : Nat)], .int .i64 0]) (by simp [results, Tryz.results18, go_sem, r0, r1]) rfl (.inr (.inr ⟨n, M', ?_, (.inl HX.out.symm), HM.out.1, HM.out.2, FE.out _ ?_⟩))
      · have e1 := HF.out.2.2.1
        rw [← HX.out] at e1
        rw [if_pos rfl] at e1
        rw [e1]
      · repeat first
          | with_reducible exact Kp.refl _ _
          | with_reducible refine Kp.setCell ?_ (by simp) _
end
end Go.Proofs.YtacoingheieceaaGreat

/- Package hamt: Look. -/
namespace Go.Proofs.YtacoingheieceaaGreat
set_option maxRecDepth 100000
open Go.RowKit
/-- The value that is none. -/
def noV : Ky := (0, 0, ⟨#[]⟩)
/-- The value of a key; none, if there is none. -/
def lookV (k : Ky) (l : List Pr) : Ky := (lookL k l).getD noV
section
variable {most : Nat} {M : Cells} {F : Nat → Prop} {hs : Ky → Nat} {l : List Pr}
/-- The way, and where its value lies. -/
theorem vwayL (b bh seed root N : Nat) (k : Ky) (ow : Int) (w : World) (h : Ar w b most M F) (hz : M 0 = none) (hT : Mp M hs root l) (hh : Hs w bh seed) (nbh : ¬ F bh) (hhs : ∀ q, OkK q → hs q = hashN seed q.1 q.2.1 q.2.2) (hk : OkK k) (hlen : l.length ≤ 1024) :
    Calls Tryz.prog 75 #[land b bh, .agg #[.int .i64 (N : Nat), .int .i64 (root : Nat)], xagg k, .int .u32 ow] w fun e W' => ∃ x : Wv, e = .returned (wagg x) ∧ x.has = hasB k l ∧ Kp (fun q => q = bh) w W' ∧ Hs W' bh seed ∧
      (x.has = true → ∃ g, x.A6 = some ⟨g, 0, none⟩ ∧ w.heap.size ≤ g ∧ x.at' + 1 < x.n6 ∧ x.n6 ≤ 8192 ∧ W'.cell? ⟨g, (x.at' + 1) * 3, none⟩ = some (.int .u8 (lookV k l).1) ∧ W'.cell? ⟨g, (x.at' + 1) * 3 + 1, none⟩ = some (.int .i64 (lookV k l).2.1) ∧ W'.cell? ⟨g, (x.at' + 1) * 3 + 2, none⟩ = some (.string (lookV k l).2.2)) := by
  rcases hT with ⟨rfl, rfl⟩ | hT
  · refine (vwayToE (M := M) bh seed N 0 k ow w h hh nbh hk hz).mono ?_
    rintro e W' ⟨rfl, k1, h1⟩
    exact ⟨_, rfl, rfl, k1, h1, fun e => by cases e⟩
  · refine (vwayTo bh seed N root k ow l hs w h hh nbh hk (hhs k hk) hT (by omega)).mono ?_
    rintro e W' ⟨x, cl, lf, rfl, hW, hR⟩
    obtain ⟨x1, x2, x3, x4, x5, x6, x7⟩ := hR.xb
    have hhas : x.has = hasB k l := by rw [x7]; exact Bool.eq_iff_iff.2 ((hW.has rfl).trans hasB_iff.symm)
    refine ⟨x, rfl, hhas, hR.kp, hR.hh, fun e => ?_⟩
    obtain ⟨v, hv⟩ := hasN_at (x7 ▸ e)
    have hlv : lookV k l = v := by
      unfold lookV
      rw [(lookL_some hT.srt).2 (hW.sub _ (List.mem_of_getElem? hv))]
      rfl
    have hf := (flatP_at hv).2
    rw [← x6] at hf
    have hlt : x.at' + 1 < (flatP lf).length := (List.getElem?_eq_some_iff.1 hf).1
    have hll := hW.sublist.length_le
    obtain ⟨f0, f1, f2⟩ := flat3_at hf
    obtain ⟨g, c, eg, _, kc0, _⟩ := own_at hR.o6 f0
    simp only [Value.slice.injEq, true_and] at eg
    have o6 := hR.o6
    have e6 := eg.1
    rw [e6] at o6
    have hg := (own_blk o6 g rfl).1
    obtain ⟨g1, c1, eg1, _, kc1, _⟩ := own_at hR.o6 f1
    obtain ⟨g2, c2, eg2, _, kc2, _⟩ := own_at hR.o6 f2
    simp only [Value.slice.injEq, true_and] at eg1 eg2
    rw [e6] at eg1 eg2
    simp only [Option.some.injEq, Addr.mk.injEq, and_true] at eg1 eg2
    obtain ⟨rfl, _⟩ := eg1
    obtain ⟨rfl, _⟩ := eg2
    rw [hlv]
    exact ⟨g, e6, hg, by rw [hR.len.2.2]; exact hlt, by rw [hR.len.2.2, flatP_length]; omega, kc0, kc1, kc2⟩
end
end Go.Proofs.YtacoingheieceaaGreat

/- Package hamt: Look, by the books. -/
namespace Go.Proofs.YtacoingheieceaaGreat
set_option maxRecDepth 100000
open Go.RowKit
section
variable {most : Nat} {M : Cells} {F : Nat → Prop} {hs : Ky → Nat} {l : List Pr}
set_option maxHeartbeats 3000000 in
theorem vLook (b bh seed root N : Nat) (k : Ky) (w : World) (h : Ar w b most M F) (hz : M 0 = none) (hT : Mp M hs root l) (hh : Hs w bh seed) (nbh : ¬ F bh) (hhs : ∀ q, OkK q → hs q = hashN seed q.1 q.2.1 q.2.2) (hk : OkK k) (hlen : l.length ≤ 1024) :
    Calls Tryz.prog 22 #[land b bh, .agg #[.int .i64 (N : Nat), .int .i64 (root : Nat)], xagg k] w fun e w' => e = .returned (.tuple #[xagg (lookV k l), .bool (hasB k l)]) ∧ Kp (fun q => q = bh) w w' ∧ Hs w' bh seed := by
  have hno : hasB k l = false → lookV k l = noV := fun e => by
    unfold lookV
    rw [lookL_none.2 (fun q hq e2 => by have := hasB_iff.2 ⟨q, hq, e2⟩; rw [e] at this; cases this)]
    rfl
  have HWAY := Lib.hid (fun (W : World) (hW : Below w.heap.size w W) => vwayL (l := l) b bh seed root N k 0 W (h.below hW) hz hT (hh.below hW) nbh hhs hk hlen)
  have hbl := hh.lt
  obtain ⟨W0, hW0⟩ : ∃ W0, W0 = (((w.alloc (.cells #[ap b, .pointer (some ⟨bh, 0, none⟩)] 30)).alloc (.cells #[.int .i64 (N : Int), .int .i64 (root : Int)] 33)).alloc (.cells #[.int .u8 k.1, .int .i64 k.2.1, .string k.2.2] 43)).alloc (.cells #[.int .u8 0, .int .i64 0, .string ⟨#[]⟩] 43) := ⟨_, rfl⟩
  have hsz : W0.heap.size = w.heap.size + 1 + 1 + 1 + 1 := by rw [hW0]; simp
  have hb0 : Below w.heap.size w W0 := by rw [hW0]; exact ((((Below.refl _ w).alloc (Nat.le_refl _) _).alloc (by simp) _).alloc (by simp; omega) _).alloc (by simp; omega) _
  have q1 : C2 W0 w.heap.size 30 (ap b) (.pointer (some ⟨bh, 0, none⟩)) := by rw [hW0]; exact (((C2.new w 30 (ap b) (.pointer (some ⟨bh, 0, none⟩))).alloc _).alloc _).alloc _
  have q2 : C2 W0 (w.heap.size + 1) 33 (.int .i64 (N : Int)) (.int .i64 (root : Int)) := by
    have h := ((C2.new (w.alloc (.cells #[ap b, .pointer (some ⟨bh, 0, none⟩)] 30)) 33 (.int .i64 (N : Int)) (.int .i64 (root : Int))).alloc (.cells #[.int .u8 k.1, .int .i64 k.2.1, .string k.2.2] 43)).alloc (.cells #[.int .u8 0, .int .i64 0, .string ⟨#[]⟩] 43)
    rw [hW0]
    simpa using h
  have q3 : C3 W0 (w.heap.size + 1 + 1) 43 (.int .u8 k.1) (.int .i64 k.2.1) (.string k.2.2) := by
    have h := (C3.new ((w.alloc (.cells #[ap b, .pointer (some ⟨bh, 0, none⟩)] 30)).alloc (.cells #[.int .i64 (N : Int), .int .i64 (root : Int)] 33)) 43 (.int .u8 k.1) (.int .i64 k.2.1) (.string k.2.2)).alloc (.cells #[.int .u8 0, .int .i64 0, .string ⟨#[]⟩] 43)
    rw [hW0]
    simpa using h
  have q4 : C3 W0 (w.heap.size + 1 + 1 + 1) 43 (.int .u8 0) (.int .i64 0) (.string ⟨#[]⟩) := by
    have h := C3.new (((w.alloc (.cells #[ap b, .pointer (some ⟨bh, 0, none⟩)] 30)).alloc (.cells #[.int .i64 (N : Int), .int .i64 (root : Int)] 33)).alloc (.cells #[.int .u8 k.1, .int .i64 k.2.1, .string k.2.2] 43)) 43 (.int .u8 0) (.int .i64 0) (.string ⟨#[]⟩)
    rw [hW0]
    simpa using h
  obtain ⟨z3, hz3⟩ : ∃ z, z = w.heap.size := ⟨_, rfl⟩
  obtain ⟨z4, hz4⟩ : ∃ z, z = w.heap.size + 1 := ⟨_, rfl⟩
  obtain ⟨z5, hz5⟩ : ∃ z, z = w.heap.size + 1 + 1 := ⟨_, rfl⟩
  obtain ⟨z6, hz6⟩ : ∃ z, z = w.heap.size + 1 + 1 + 1 := ⟨_, rfl⟩
  have HW0 := Lib.hid hW0
  have HB0 := Lib.hid hb0
  have HZZ := Lib.hid (And.intro hz3 (And.intro hz4 (And.intro hz5 hz6)))
  rw [← hz6] at q4
  have QQ := Lib.hid q4
  have ZL := Lib.hid (show bh < w.heap.size ∧ z6 = w.heap.size + 3 ∧ W0.heap.size = w.heap.size + 4 from ⟨hbl, hz6, hsz⟩)
  have HNO := Lib.hid hno
  rw [← hz3] at q1
  rw [← hz4] at q2
  rw [← hz5] at q3
  obtain ⟨x0, x1, _⟩ := q1.all
  obtain ⟨x2, x3, _⟩ := q2.all
  obtain ⟨k0, k1, k2, _⟩ := q3.all
  clear h hz hT hh nbh hhs hk hlen hW0 hb0 hsz q1 q2 q3 q4 hbl hz3 hz4 hz5 hz6 hno
  go_enter Tryz.func22, Tryz.ntmps22
  go_upto_region 1 with fail
  rw [← HW0.out]
  clear HW0
  obtain ⟨e1, e2, e3, e4⟩ := HZZ.out
  rw [← e4, ← e3, ← e2, ← e1]
  clear e1 e2 e3 e4 HZZ
  go_wp2_with fail
  refine (HWAY.out _ HB0.out).mono ?_
  rintro e w2 ⟨⟨yb, ybh, yow, yg, yroot, A4, n4, c4, A5, n5, c5, A6, n6, c6, yat, yhas⟩, rfl, hx, hk2, hh2, hcell⟩
  simp only at hx hcell
  clear x0 x1 x2 x3 k0 k1 k2
  have q6 := QQ.out.kp hk2 (by have := ZL.out; omega)
  have HX := Lib.hid hx
  have HCC := Lib.hid hcell
  clear hx hcell
  have hs2 := hk2.size
  go_upto_region 2 with fail
  have kp3 : Kp (fun _ => False) w2 (w2.alloc (.cells #[ap yb, .pointer (some ⟨ybh, 0, none⟩), .int .u32 yow, .int .u64 yg, .int .i64 yroot, .slice A4 n4 c4, .slice A5 n5 c5, .slice A6 n6 c6, .int .i64 yat, .bool yhas] 138)) := (Kp.refl _ w2).alloc _
  have q3 := WC.new w2 ⟨yb, ybh, yow, yg, yroot, A4, n4, c4, A5, n5, c5, A6, n6, c6, yat, yhas⟩
  simp only [wcells] at q3
  have k3 := hk2.trans kp3 (fun _ h => h.elim)
  have hh3 := hh2.kp kp3 id
  have q63 := q6.kp kp3 id
  have hcell3 : yhas = true → ∃ g, A6 = some ⟨g, 0, none⟩ ∧ W0.heap.size ≤ g ∧ yat + 1 < n6 ∧ n6 ≤ 8192 ∧ (w2.alloc (.cells #[ap yb, .pointer (some ⟨ybh, 0, none⟩), .int .u32 yow, .int .u64 yg, .int .i64 yroot, .slice A4 n4 c4, .slice A5 n5 c5, .slice A6 n6 c6, .int .i64 yat, .bool yhas] 138)).cell? ⟨g, (yat + 1) * 3, none⟩ = some (.int .u8 (lookV k l).1) ∧ (w2.alloc (.cells #[ap yb, .pointer (some ⟨ybh, 0, none⟩), .int .u32 yow, .int .u64 yg, .int .i64 yroot, .slice A4 n4 c4, .slice A5 n5 c5, .slice A6 n6 c6, .int .i64 yat, .bool yhas] 138)).cell? ⟨g, (yat + 1) * 3 + 1, none⟩ = some (.int .i64 (lookV k l).2.1) ∧ (w2.alloc (.cells #[ap yb, .pointer (some ⟨ybh, 0, none⟩), .int .u32 yow, .int .u64 yg, .int .i64 yroot, .slice A4 n4 c4, .slice A5 n5 c5, .slice A6 n6 c6, .int .i64 yat, .bool yhas] 138)).cell? ⟨g, (yat + 1) * 3 + 2, none⟩ = some (.string (lookV k l).2.2) := fun e => by
    obtain ⟨g, h1, h2, h3, h4, h5, h6, h7⟩ := HCC.out e
    exact ⟨g, h1, h2, h3, h4, kp3.cell h5 id, kp3.cell h6 id, kp3.cell h7 id⟩
  clear kp3 q6 hk2 hh2 HCC QQ
  generalize w2.alloc (.cells #[ap yb, .pointer (some ⟨ybh, 0, none⟩), .int .u32 yow, .int .u64 yg, .int .i64 yroot, .slice A4 n4 c4, .slice A5 n5 c5, .slice A6 n6 c6, .int .i64 yat, .bool yhas] 138) = w3 at *
  have FIN := Lib.hid (fun w9 (h9 : Kp (fun q => q = z6) w3 w9) => (show Kp (fun q => q = bh) w w9 ∧ Hs w9 bh seed from by
    have h5 := ZL.out
    exact ⟨((Kp.of_below HB0.out (fun q => q = bh)).trans k3 (fun q h => .inl h)).trans h9 (fun q h => .inr (by omega)), hh3.kp h9 (by omega)⟩))
  obtain ⟨m0, m1, m2, m3, m4, m5, m6, m7, m8, m9⟩ := q3.all
  obtain ⟨r0, r1, r2, g0, g1, g2⟩ := q63.all
  simp only at m0 m1 m2 m3 m4 m5 m6 m7 m8 m9
  clear k3 hh3 q3 q63 hs2
  cases yhas
  · clear hcell3
    have e1 : xagg (lookV k l) = .agg #[.int .u8 0, .int .i64 0, .string ⟨#[]⟩] := by rw [HNO.out HX.out.symm]; rfl
    have e2 : hasB k l = false := HX.out.symm
    have HE := Lib.hid (And.intro e1 e2)
    clear e1 e2
    go_wp2_with fail
    refine bodyPost_ret (v := .tuple #[.agg #[.int .u8 0, .int .i64 0, .string ⟨#[]⟩], .bool false]) (by simp [results, Tryz.results22, go_sem, r0, r1, r2]) rfl ⟨by rw [HE.out.1, HE.out.2], FIN.out _ ?_⟩
    repeat first
      | with_reducible exact Kp.refl _ _
      | with_reducible refine Kp.setCell ?_ (by simp) _
  · obtain ⟨g, rfl, h1, h2, h3, c0, c1, c2⟩ := hcell3 rfl
    obtain ⟨lv, hlv⟩ : ∃ lv, lv = lookV k l := ⟨_, rfl⟩
    rw [← hlv] at c0 c1 c2
    have HE := Lib.hid hlv
    have hw1 : IntKind.i64.wrap ((yat : Int) + 1) = (yat : Int) + 1 := IntWalk.i64_in _ (by omega)
    have hi1 : (0 : Int) ≤ (yat : Int) + 1 := by omega
    have hi2 : (yat : Int) + 1 < (n6 : Int) := by omega
    have ne1 : ¬ g = z6 := by have := ZL.out; omega
    clear hlv h1 h2 h3 hcell3
    go_wp2_with fail
    refine bodyPost_ret (v := .tuple #[xagg lv, .bool true]) (by simp [results, Tryz.results22, go_sem, r0, r1, r2]) rfl ⟨by rw [HE.out, HX.out], FIN.out _ ?_⟩
    repeat first
      | with_reducible exact Kp.refl _ _
      | with_reducible refine Kp.setCell ?_ (by simp) _
end
end Go.Proofs.YtacoingheieceaaGreat

/- A range over a function whose value may bind a receiver: the law for who ranges, outside of any other range. Of the dump nothing. -/
namespace Go.Proofs.YtacoingheieceaaGreat
set_option maxRecDepth 100000
open Go Go.RowKit

section
variable {α : Type} {P : Program}

/-- The function f, called with these arguments and a function to yield to, yields the elements of xs, one behind the other, until it is told to end: for whatever J stands when so many have come, and Jx when it was told to end behind so many. Kp is what a round keeps that goes on. -/
def Gives (P : Program) (f : FuncId) (args : Value → Array Value) (encs : α → Array Value) (Kp : World → World → Prop) (xs : List α) (w : World) : Prop :=
  ∀ (l : Nat) (J Jx : Nat → World → Prop) (W : World), Below w.heap.size w W → (∀ i A B, J i A → Below A.heap.size A B → J i B) → (∀ i A B, Jx i A → Below A.heap.size A B → Jx i B) →
    (∀ i x A, xs[i]? = some x → J i A → YieldAt Fence.wide 0 P l (encs x) A fun e B => (e = .returned (.bool true) ∧ J (i + 1) B ∧ Kp A B) ∨ (e = .returned (.bool false) ∧ Jx (i + 1) B)) →
    J 0 W → Calls P f (args (.func (.yield l) #[] #[])) W fun e B => (∃ v, e = .returned v) ∧ (J xs.length B ∨ ∃ i, i ≤ xs.length ∧ Jx i B)

/-- How a round is left: it goes on, or it ends the range by a jump. -/
def roundOf (Kp : World → World → Prop) (I : Nat → World → Prop) (Ix : Code → Nat → World → Prop) (i : Nat) (A : World) : Exit → Act → World → Prop
  | .normal, _, B => KeepsOthers A B ∧ Kp A B ∧ I i B
  | .ret, _, B => KeepsOthers A B ∧ Ix .ret i B
  | .exit k, _, B => KeepsOthers A B ∧ Ix (.exit k) i B
  | .goto k, _, B => KeepsOthers A B ∧ Ix (.goto k) i B
  | .panic _, _, _ => False
  | .outgrown, _, _ => False

/-- What stands beside the caller's own word while the range goes on: the loop's record and the block of the deferred calls. -/
structure Books (D : Nat) (r : Loop) (W : World) : Prop where
  row : W.heap[D + 1]? = some (.loop r)
  def' : W.heap[D]? = some (.deferred (some []))

theorem Books.below {D : Nat} {r : Loop} {A B : World} (h : Books D r A) (g : Below A.heap.size A B) : Books D r B :=
  ⟨(g.block _ (Array.getElem?_eq_some_iff.1 h.row).1).trans h.row, (g.block _ (Array.getElem?_eq_some_iff.1 h.def').1).trans h.def'⟩
theorem Books.keeps {D : Nat} {r : Loop} {A B : World} (h : Books D r A) (g : KeepsOthers A B) : Books D r B := ⟨g.same _ _ h.row rfl, g.same _ _ h.def' rfl⟩
theorem Books.put {D : Nat} {r : Loop} {A : World} (h : Books D r A) (r' : Loop) : Books D r' (A.putObj (D + 1) (.loop r')) :=
  ⟨World.putObj_heap_same (Array.getElem?_eq_some_iff.1 h.row).1, (World.putObj_heap_other (by omega)).trans h.def'⟩

theorem below_own {B : Nat} {I : Nat → World → Prop} (h : OwnFrom B I) {i : Nat} {A C : World} (hI : I i A) (g : Below A.heap.size A C) : I i C :=
  h i A C none hI (grownBy_below g none) (fun r e => by cases e)

theorem wp_range {g : Operand} {ps : Array Tmp} {assign body : Code} {Q : Exit → Act → World → Prop} {a : Act} {w : World} {f : FuncId} {first last : Array Value}
    (hg : a.eval g = .func (.func f) first last) (hf : ∀ (args : Array Value) (w : World), (callFunc f args).run P w = .ok (.enter f args) w) {encs : α → Array Value} {Kp : World → World → Prop} {xs : List α} (hps : ∀ x, (encs x).size = ps.size)
    (hseq : Gives P f (fun v => first ++ #[v] ++ last) encs Kp xs w)
    (hKt : ∀ {A B C : World}, Kp A B → Kp B C → Kp A C) (hKb : ∀ (W : World) (l : Nat) (o o' : Obj), w.heap.size ≤ l → W.heap[l]? = some o → o.isCells = false → o.isWalk = false → Kp W (W.putObj l o'))
    (I : Nat → World → Prop) (Ix : Code → Nat → World → Prop) (hI : OwnFrom w.heap.size I) (hIx : ∀ c, OwnFrom w.heap.size (Ix c)) (h0 : I 0 w)
    (hround : ∀ (l i : Nat) (x : α) (W : World), xs[i]? = some x → assign.wpIn (Fence.wide.inRound l) 0 P (Exit.then (fun a₁ Wa => Wa = W ∧ ∀ W', I i W' → w.heap.size ≤ W'.heap.size → body.wpIn (Fence.wide.inRound l) 0 P (roundOf Kp I Ix (i + 1) W') a₁ W') (fun _ _ _ => False)) { tmps := (ps.zip (encs x)).foldl (fun t (p, v) => t.setIfInBounds p v) a.tmps, defers := [] } W)
    (hdone : ∀ (D : Nat) (W : World), w.heap.size ≤ D → I xs.length W → W.heap[D]? = some (.deferred (some [])) → Q .normal { a with defers := { target := .collected D, args := #[] } :: a.defers } W)
    (hstop : ∀ (D : Nat) (c : Code) (i : Nat) (W : World), w.heap.size ≤ D → i ≤ xs.length → Ix c i W → W.heap[D]? = some (.deferred (some [])) → c.wp P Q { a with defers := { target := .collected D, args := #[] } :: a.defers } W) :
    (Code.rangeFunc g ps assign body).wp P Q a w := by
  refine (wpIn_wide (n := 1)).1 (wpIn_rangeFunc fun fn hfn => ?_)
  obtain ⟨rec, hrec⟩ : ∃ rec : LoopState → Option Code → Loop, rec = fun st pe => { state := st, pending := pe, fn, tmps := a.tmps, params := ps, assign, body, defers := w.heap.size } := ⟨_, rfl⟩
  obtain ⟨W1, hW1⟩ : ∃ W1, W1 = (w.alloc (.deferred (some []))).alloc (.loop (rec .ready none)) := ⟨_, rfl⟩
  have hb1 : Below w.heap.size w W1 := by rw [hW1]; exact ((Below.refl _ w).alloc (Nat.le_refl _) _).alloc (by simp) _
  have hB1 : Books w.heap.size (rec .ready none) W1 := by
    rw [hW1]
    refine ⟨?_, (Below.heap_alloc _ _ _ (by simp)).trans (World.alloc_heap_new w _)⟩
    have := World.alloc_heap_new (w.alloc (.deferred (some []))) (.loop (rec .ready none))
    rwa [World.size_alloc] at this
  refine ⟨w.heap.size + 1, [{ target := .collected w.heap.size, args := #[] }], W1, { target := .fn (.func f) last, args := first ++ #[.func (.yield (w.heap.size + 1)) #[] #[]] }, W1, f, first ++ #[.func (.yield (w.heap.size + 1)) #[] #[]] ++ last, W1, ?_, ?_, fun _ _ => trivial, ?_, fun _ => Nat.le_refl 1, ?_⟩
  · rw [hW1, hrec]; exact run_enterLoop_outer _ _ _ _ _
  · simp only [resolve, hg]
    simp [go_sem, Deferred.ofValue]
  · simp only [invoke]
    exact hf _ _
  · refine callsIn_wide.2 ((hseq (w.heap.size + 1) (fun i W => I i W ∧ Books w.heap.size (rec .ready none) W) (fun i W => ∃ c, Ix c i W ∧ Books w.heap.size (rec .done (some c)) W) W1 hb1
      (fun i A B h hg => ⟨below_own hI h.1 hg, h.2.below hg⟩) (fun i A B ⟨c, h, hk⟩ hg => ⟨c, below_own (hIx c) h hg, hk.below hg⟩) ?_ ⟨below_own hI h0 hb1, hB1⟩).mono ?_)
    · rintro i x W hx ⟨hi, hk⟩
      have hlt : w.heap.size + 1 < W.heap.size := (Array.getElem?_eq_some_iff.1 hk.row).1
      have hy := run_yield (P := P) (args := encs x) hk.row (by rw [hrec]; exact hps x)
      have hbegin := run_beginRound (P := P) hk.row (by rw [hrec])
      have hk2 := hk.put { rec .ready none with state := .busy }
      have hp2 : Kp W (W.putObj (w.heap.size + 1) (.loop { rec .ready none with state := .busy })) := hKb _ _ _ _ (by omega) hk.row rfl rfl
      have hi2 := hI.putObj (.loop { rec .ready none with state := .busy }) hi (Nat.le_succ _) hk.row rfl
      have hsz : w.heap.size ≤ (W.putObj (w.heap.size + 1) (.loop { rec .ready none with state := .busy })).heap.size := by
        have := (Array.getElem?_eq_some_iff.1 hk2.row).1; omega
      have hend : ∀ (j : Option Code) (B : World), KeepsOthers (W.putObj (w.heap.size + 1) (.loop { rec .ready none with state := .busy })) B →
          (Instr.endRound (w.heap.size + 1) j).run P B = .ok (.bool j.isNone) (B.putObj (w.heap.size + 1) (.loop (rec (if j.isNone then .ready else .done) j))) ∧ Books w.heap.size { rec .ready none with state := .busy } B := fun j B hB => by
        have hk3 := hk2.keeps hB
        refine ⟨?_, hk3⟩
        have := run_endRound (P := P) j hk3.row
        rw [hrec] at this ⊢
        exact this
      rw [hrec] at hy
      refine ⟨fn, _, assign, body, hy, roundIn_of_wpIn hfn (wpIn_mono (hround (w.heap.size + 1) i x W hx) ?_)⟩
      rintro (_ | _ | _ | _ | _ | _) a1 Wa ha <;> first | exact ha.elim | skip
      obtain ⟨rfl, hwalk⟩ := ha
      refine ⟨_, hbegin, wpIn_mono (hwalk _ hi2 hsz) ?_⟩
      intro e a3 B hp
      cases e with
      | normal =>
        obtain ⟨hkp, hK, hI3⟩ := hp
        obtain ⟨hr, hk3⟩ := hend none B hkp
        exact ⟨_, _, hr, .inl ⟨rfl, ⟨hI.putObj _ hI3 (Nat.le_succ _) hk3.row rfl, hk3.put _⟩, hKt (hKt hp2 hK) (hKb _ _ _ _ (Nat.le_succ _) hk3.row rfl rfl)⟩⟩
      | ret =>
        obtain ⟨hkp, hI3⟩ := hp
        obtain ⟨hr, hk3⟩ := hend (some .ret) B hkp
        exact ⟨_, _, hr, .inr ⟨rfl, .ret, (hIx _).putObj _ hI3 (Nat.le_succ _) hk3.row rfl, hk3.put _⟩⟩
      | exit k =>
        obtain ⟨hkp, hI3⟩ := hp
        obtain ⟨hr, hk3⟩ := hend (some (.exit k)) B hkp
        exact ⟨_, _, hr, .inr ⟨rfl, .exit k, (hIx _).putObj _ hI3 (Nat.le_succ _) hk3.row rfl, hk3.put _⟩⟩
      | goto k =>
        obtain ⟨hkp, hI3⟩ := hp
        obtain ⟨hr, hk3⟩ := hend (some (.goto k)) B hkp
        exact ⟨_, _, hr, .inr ⟨rfl, .goto k, (hIx _).putObj _ hI3 (Nat.le_succ _) hk3.row rfl, hk3.put _⟩⟩
      | panic _ => exact hp.elim
      | outgrown => exact hp.elim
    · rintro e B ⟨⟨v, rfl⟩, ⟨hi, hk⟩ | ⟨i, hle, c, hi, hk⟩⟩
      · have hr := run_endLoop (P := P) hk.row (by rw [hrec]; simp)
        exact ⟨none, _, by rw [hr, hrec], hdone _ _ (Nat.le_refl _) (hI.putObj _ hi (Nat.le_succ _) hk.row rfl) ((World.putObj_heap_other (by omega)).trans hk.def')⟩
      · have hr := run_endLoop (P := P) hk.row (by rw [hrec]; simp)
        exact ⟨some c, _, by rw [hr, hrec], wpIn_wide.2 (hstop _ c i _ (Nat.le_refl _) hle ((hIx c).putObj _ hi (Nat.le_succ _) hk.row rfl) ((World.putObj_heap_other (by omega)).trans hk.def'))⟩
end

end Go.Proofs.YtacoingheieceaaGreat

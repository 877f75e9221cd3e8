/- Several texts in one. -/
import Derived.Test.YthcpjehkjhpjfaaGreatMh15
import Derived.Test.YthcpjehkjhpjfaaGreatMh11
import Derived.Test.YthcpjehkjhpjfaaGreatMh08
import Derived.Test.YthcpjehkjhpjfaaGreatMh03
import Derived.Deep.RegionLaw
import Derived.Lib.SliceRun
import Derived.Test.YthcpjehkjhpjfaaGreatMh01
set_option linter.unusedSimpArgs false
namespace Go.Proofs.YthcpjehkjhpjfaaGreat
set_option maxRecDepth 100000
open Go.RowKit
theorem cnt_pow (a e : Nat) : cnt (2 ^ a) e = if a < e then 1 else 0 := by
  have h := cnt_set (s := 0) (s' := 2 ^ a) (d := a) (by simp) (by rw [Nat.testBit_two_pow]; simp) (fun e he => by rw [Nat.testBit_two_pow]; simp [Ne.symm he]) e
  rw [h, cnt_zero]
  simp
section
variable {most : Nat} {M : Cells} {F : Nat → Prop}
set_option maxHeartbeats 3000000 in
theorem vput4 (x : Wv) (zw zl zn zk zv i lev gn : Nat) (k v : Ky) (w : World) (h : Ar w x.b most M F) (hw : WC w zw x) (hl : C1 w zl 3 (.int .i64 (lev : Int))) (hn : C1 w zn 22 (.int .u64 (gn : Int)))
    (hk : C3 w zk 43 (.int .u8 k.1) (.int .i64 k.2.1) (.string k.2.2)) (hv : C3 w zv 43 (.int .u8 v.1) (.int .i64 v.2.1) (.string v.2.2)) (nF : ∀ z, z = zw ∨ z = zk ∨ z = zv → ¬ F z) (hlev : lev < 13) (hi : M i ≠ none) (hroom : live (most + 1) M + 2 ≤ most) :
    Calls Tryz.prog 148 (#[.int .i64 (i : Nat)] ++ #[.pointer (some ⟨zw, 0, none⟩), .pointer (some ⟨zl, 0, none⟩), .pointer (some ⟨zn, 0, none⟩), .pointer (some ⟨zk, 0, none⟩), .pointer (some ⟨zv, 0, none⟩)]) w fun e w' => ∃ n n2 : Nat, e = .returned (.int .i64 n2) ∧ 1 ≤ n ∧ n ≤ most ∧ M n = none ∧ 1 ≤ n2 ∧ n2 ≤ most ∧ M n2 = none ∧ n2 ≠ n ∧
      Stp w w' x.b most (upd (upd M n (some (⟨x.ow, 0, 13, [k, v], []⟩, 1))) n2 (some (⟨x.ow, ((2 ^ dg gn lev ||| 2 ^ dg x.g lev : Nat) : Int), (lev : Int), [], [i].insertIdx (cnt (2 ^ dg gn lev) (dg x.g lev)) n⟩, 1))) F := by
  obtain ⟨d0, hd0⟩ : ∃ d0, d0 = dg gn lev := ⟨_, rfl⟩
  obtain ⟨d, hd⟩ : ∃ d, d = dg x.g lev := ⟨_, rfl⟩
  have hd32 : d0 < 32 := hd0 ▸ dg_lt _ _
  have hc1 : cnt (2 ^ d0) d ≤ 1 := by rw [cnt_pow]; split <;> omega
  have HWK1 := vwithKid x.ow 0 lev gn i w.heap.size 0 0 none (.slice none 0 0) [] w (by decide) hlev (by decide) (by rw [cnt_zero]; exact Nat.le_refl _) (World.ownsRow_nil w _ _ _) (Nat.le_refl _)
  rw [← hd0, cnt_zero, Nat.zero_or] at HWK1
  replace HWK1 := Lib.hid HWK1
  have HWK2 := Lib.hid (fun (n : Nat) (A3 : Option Addr) (c3 : Nat) (W' : World) (hh : W'.ownsRow w.heap.size 3 1 (.slice A3 1 c3) 1 (nums (ns [i]))) (hs : w.heap.size ≤ W'.heap.size) => by
    have h1 := vwithKid x.ow (2 ^ d0) lev x.g n w.heap.size 0 0 none (.slice A3 1 c3) [i] W' (pow_32 hd32) hlev (by show 1 ≤ 64; decide) (by rw [← hd]; exact hc1) hh hs
    rw [← hd] at h1
    exact h1)
  have HNL := Lib.hid (fun (W' : World) (hs : Below w.heap.size w W') => vnewLeaf x k v most M F W' (h.below hs) (by omega))
  have HMK := Lib.hid (fun (n : Nat) (W' : World) (F1 : Nat → Prop) (A3 : Option Addr) (c3 : Nat) (hn : M n = none) (hn1 : 1 ≤ n ∧ n ≤ most) (ha : Ar W' x.b most (upd M n (some (⟨x.ow, 0, 13, [k, v], []⟩, 1))) F1) (hh : W'.ownsRow w.heap.size 3 1 (.slice A3 2 c3) 2 (nums (ns ([i].insertIdx (cnt (2 ^ d0) d) n)))) (fk : ∀ q, (Value.slice A3 2 c3).ownBlock = some q → ¬ F1 q) =>
    amake ⟨x.ow, ((2 ^ d0 ||| 2 ^ d : Nat) : Int), (lev : Int), [], [i].insertIdx (cnt (2 ^ d0) d) n⟩ (.slice none 0 0) (.slice A3 2 c3) x.b most _ F1 W' ha (Rd.nil _) (by
        have hl : ([i].insertIdx (cnt (2 ^ d0) d) n).length = 2 := List.length_insertIdx_of_le_length hc1 _
        show Rd W' _ ([i].insertIdx (cnt (2 ^ d0) d) n).length _
        rw [hl]; exact Rd.of_own hh) (by show 0 ≤ _; omega) (by
        have hl : ([i].insertIdx (cnt (2 ^ d0) d) n).length = 2 := List.length_insertIdx_of_le_length hc1 _
        show ([i].insertIdx (cnt (2 ^ d0) d) n).length ≤ _
        omega) (fun g hg => by simp [Value.ownBlock] at hg) fk (good_kids fun q hq _ => by
        rcases (List.mem_insertIdx (show cnt (2 ^ d0) d ≤ [i].length from hc1)).1 hq with e | e
        · subst e; rw [upd_same]; simp
        · rw [List.mem_singleton] at e
          subst e
          rw [upd_other _ _ (fun e : q = n => hi (by rw [e]; exact hn))]
          exact hi) (by
        have h1 := live_upd (M := M) (N := most + 1) n (some (⟨x.ow, 0, 13, [k, v], []⟩, 1)) (by omega)
        rw [hn] at h1
        simp only [one] at h1
        omega))
  have HA := Lib.hid h
  have HW := Lib.hid (And.intro hw (And.intro hk hv))
  have HNF := Lib.hid nF
  have HLT := Lib.hid (fun q (hq : F q) => h.lt hq)
  have kl := hl.c0
  have kn := hn.c0
  obtain ⟨m0, m1, m2, m3, m4, m5, m6, m7, m8, m9⟩ := hw.all
  have hwr : IntKind.u32.wrap (lev : Int) = (lev : Int) := by unfold IntKind.wrap; simp [go_sem]; omega
  rw [← hd0, ← hd]
  obtain ⟨e0, he0⟩ : ∃ e0, e0 = 2 ^ d0 := ⟨_, rfl⟩
  obtain ⟨e1, he1⟩ : ∃ e1, e1 = e0 ||| 2 ^ d := ⟨_, rfl⟩
  rw [← he0] at HWK1 HWK2 HMK ⊢
  rw [← he1] at HWK2 HMK ⊢
  clear he0 he1
  clear h hw hl hn hk hv nF hlev hi hroom hd0 hd hd32 hc1
  show Calls Tryz.prog 148 #[.int .i64 (i : Nat), .pointer (some ⟨zw, 0, none⟩), .pointer (some ⟨zl, 0, none⟩), .pointer (some ⟨zn, 0, none⟩), .pointer (some ⟨zk, 0, none⟩), .pointer (some ⟨zv, 0, none⟩)] w _
  go_enter Tryz.func148, Tryz.ntmps148
  go_wp2_with fail
  refine HWK1.out.mono ?_
  rintro e W1 ⟨A3, c3, rfl, io, ik, ib⟩
  have hb1 : Below w.heap.size w W1 := ik.below (fun q hq => by cases hq)
  have hA3 : ∀ q, (Value.slice A3 1 c3).ownBlock = some q → w.heap.size ≤ q := fun q hq => by
    rcases ib q hq with h | h
    · cases h
    · exact h
  have HA3 := Lib.hid hA3
  have IO := Lib.hid io
  have HB1 := Lib.hid hb1
  clear io ik ib hA3 HWK1 hb1
  go_upto_region 2 with fail
  obtain ⟨zc, hzc⟩ : ∃ zc, zc = W1.heap.size := ⟨_, rfl⟩
  have q5 := C5.new W1 136 (.int .u32 x.ow) (.int .u32 (e0 : Int)) (.int .u32 (lev : Int)) (.slice none 0 0) (.slice A3 1 c3)
  have hb2 : Below w.heap.size w (W1.alloc (.cells #[.int .u32 x.ow, .int .u32 (e0 : Int), .int .u32 (lev : Int), .slice none 0 0, .slice A3 1 c3] 136)) := HB1.out.alloc HB1.out.size _
  have io2 := (Kp.of_below ((Below.refl _ W1).alloc (Nat.le_refl _) (.cells #[.int .u32 x.ow, .int .u32 (e0 : Int), .int .u32 (lev : Int), .slice none 0 0, .slice A3 1 c3] 136)) (fun _ => False)).own IO.out (fun _ _ h => h)
  have hzl : w.heap.size ≤ zc := by rw [hzc]; exact HB1.out.size
  have hk3 : ∀ q, (Value.slice A3 1 c3).ownBlock = some q → q < zc := fun q hq => by rw [hzc]; exact (own_blk IO.out q hq).2
  rw [← hzc] at q5 ⊢
  generalize W1.alloc (.cells #[.int .u32 x.ow, .int .u32 (e0 : Int), .int .u32 (lev : Int), .slice none 0 0, .slice A3 1 c3] 136) = W2 at q5 hb2 io2 ⊢
  clear hzc IO HB1
  have hSD : Q3S W2.drew zw zk zv zc x k v x.ow (e0 : Nat) (lev : Nat) (.slice none 0 0) (.slice A3 1 c3) := ⟨HW.out.1.below hb2.drew, HW.out.2.1.below hb2.drew, HW.out.2.2.below hb2.drew, q5⟩
  obtain ⟨WD, hWD⟩ : ∃ WD, WD = W2.drew := ⟨_, rfl⟩
  rw [← hWD] at hSD
  have hbD : Below w.heap.size w WD := by rw [hWD]; exact hb2.drew
  have ioD : WD.ownsRow w.heap.size 3 1 (.slice A3 1 c3) 1 (nums (ns [i])) := by rw [hWD]; exact io2
  have hzD : zc < WD.heap.size := by rw [hWD]; exact q5.lt
  clear q5 hb2 io2 kl kn hwr m0 m1 m2 m3 m4 m5 m6 m7 m8 m9
  have HBD := Lib.hid hbD
  have HIO := Lib.hid ioD
  have HSD := Lib.hid hSD
  have HZ := Lib.hid (And.intro hzl hzD)
  have HK3 := Lib.hid hk3
  have HWD := Lib.hid hWD
  clear hbD ioD hSD hWD hzl hzD hk3
  have y0 : ∀ W', Q3S W' zw zk zv zc x k v x.ow (e0 : Nat) (lev : Nat) (.slice none 0 0) (.slice A3 1 c3) → W'.cell? ⟨zw, 0, none⟩ = some (ap x.b) := fun W' h => h.wy.at rfl
  have y1 : ∀ W', Q3S W' zw zk zv zc x k v x.ow (e0 : Nat) (lev : Nat) (.slice none 0 0) (.slice A3 1 c3) → W'.cell? ⟨zw, 1, none⟩ = some (.pointer (some ⟨x.bh, 0, none⟩)) := fun W' h => h.wy.at rfl
  have y2 : ∀ W', Q3S W' zw zk zv zc x k v x.ow (e0 : Nat) (lev : Nat) (.slice none 0 0) (.slice A3 1 c3) → W'.cell? ⟨zw, 2, none⟩ = some (.int .u32 x.ow) := fun W' h => h.wy.at rfl
  have y3 : ∀ W', Q3S W' zw zk zv zc x k v x.ow (e0 : Nat) (lev : Nat) (.slice none 0 0) (.slice A3 1 c3) → W'.cell? ⟨zw, 3, none⟩ = some (.int .u64 x.g) := fun W' h => h.wy.at rfl
  have y4 : ∀ W', Q3S W' zw zk zv zc x k v x.ow (e0 : Nat) (lev : Nat) (.slice none 0 0) (.slice A3 1 c3) → W'.cell? ⟨zw, 4, none⟩ = some (.int .i64 x.root) := fun W' h => h.wy.at rfl
  have y5 : ∀ W', Q3S W' zw zk zv zc x k v x.ow (e0 : Nat) (lev : Nat) (.slice none 0 0) (.slice A3 1 c3) → W'.cell? ⟨zw, 5, none⟩ = some (.slice x.A4 x.n4 x.c4) := fun W' h => h.wy.at rfl
  have y6 : ∀ W', Q3S W' zw zk zv zc x k v x.ow (e0 : Nat) (lev : Nat) (.slice none 0 0) (.slice A3 1 c3) → W'.cell? ⟨zw, 6, none⟩ = some (.slice x.A5 x.n5 x.c5) := fun W' h => h.wy.at rfl
  have y7 : ∀ W', Q3S W' zw zk zv zc x k v x.ow (e0 : Nat) (lev : Nat) (.slice none 0 0) (.slice A3 1 c3) → W'.cell? ⟨zw, 7, none⟩ = some (.slice x.A6 x.n6 x.c6) := fun W' h => h.wy.at rfl
  have y8 : ∀ W', Q3S W' zw zk zv zc x k v x.ow (e0 : Nat) (lev : Nat) (.slice none 0 0) (.slice A3 1 c3) → W'.cell? ⟨zw, 8, none⟩ = some (.int .i64 x.at') := fun W' h => h.wy.at rfl
  have y9 : ∀ W', Q3S W' zw zk zv zc x k v x.ow (e0 : Nat) (lev : Nat) (.slice none 0 0) (.slice A3 1 c3) → W'.cell? ⟨zw, 9, none⟩ = some (.bool x.has) := fun W' h => h.wy.at rfl
  have kk0 : ∀ W', Q3S W' zw zk zv zc x k v x.ow (e0 : Nat) (lev : Nat) (.slice none 0 0) (.slice A3 1 c3) → W'.cell? ⟨zk, 0, none⟩ = some (.int .u8 k.1) := fun W' h => h.ck.c0
  have kk1 : ∀ W', Q3S W' zw zk zv zc x k v x.ow (e0 : Nat) (lev : Nat) (.slice none 0 0) (.slice A3 1 c3) → W'.cell? ⟨zk, 1, none⟩ = some (.int .i64 k.2.1) := fun W' h => h.ck.c1
  have kk2 : ∀ W', Q3S W' zw zk zv zc x k v x.ow (e0 : Nat) (lev : Nat) (.slice none 0 0) (.slice A3 1 c3) → W'.cell? ⟨zk, 2, none⟩ = some (.string k.2.2) := fun W' h => h.ck.c2
  have kv0 : ∀ W', Q3S W' zw zk zv zc x k v x.ow (e0 : Nat) (lev : Nat) (.slice none 0 0) (.slice A3 1 c3) → W'.cell? ⟨zv, 0, none⟩ = some (.int .u8 v.1) := fun W' h => h.cv.c0
  have kv1 : ∀ W', Q3S W' zw zk zv zc x k v x.ow (e0 : Nat) (lev : Nat) (.slice none 0 0) (.slice A3 1 c3) → W'.cell? ⟨zv, 1, none⟩ = some (.int .i64 v.2.1) := fun W' h => h.cv.c1
  have kv2 : ∀ W', Q3S W' zw zk zv zc x k v x.ow (e0 : Nat) (lev : Nat) (.slice none 0 0) (.slice A3 1 c3) → W'.cell? ⟨zv, 2, none⟩ = some (.string v.2.2) := fun W' h => h.cv.c2
  have kc0 : ∀ W', Q3S W' zw zk zv zc x k v x.ow (e0 : Nat) (lev : Nat) (.slice none 0 0) (.slice A3 1 c3) → W'.cell? ⟨zc, 0, none⟩ = some (.int .u32 x.ow) := fun W' h => h.cc.c0
  have kc1 : ∀ W', Q3S W' zw zk zv zc x k v x.ow (e0 : Nat) (lev : Nat) (.slice none 0 0) (.slice A3 1 c3) → W'.cell? ⟨zc, 1, none⟩ = some (.int .u32 (e0 : Int)) := fun W' h => h.cc.c1
  have kc2 : ∀ W', Q3S W' zw zk zv zc x k v x.ow (e0 : Nat) (lev : Nat) (.slice none 0 0) (.slice A3 1 c3) → W'.cell? ⟨zc, 2, none⟩ = some (.int .u32 (lev : Int)) := fun W' h => h.cc.c2
  have kc3 : ∀ W', Q3S W' zw zk zv zc x k v x.ow (e0 : Nat) (lev : Nat) (.slice none 0 0) (.slice A3 1 c3) → W'.cell? ⟨zc, 3, none⟩ = some (.slice none 0 0) := fun W' h => h.cc.c3
  have kc4 : ∀ W', Q3S W' zw zk zv zc x k v x.ow (e0 : Nat) (lev : Nat) (.slice none 0 0) (.slice A3 1 c3) → W'.cell? ⟨zc, 4, none⟩ = some (.slice A3 1 c3) := fun W' h => h.cc.c4
  refine wp_region_noPanic ?_
  refine wp_region_held_drew (S := fun W' => Q3S W' zw zk zv zc x k v x.ow (e0 : Nat) (lev : Nat) (.slice none 0 0) (.slice A3 1 c3)) (by kernel_rfl) (by rw [← HWD.out]; exact HSD.out) (fun hH => ?_)
  rw [← HWD.out] at hH ⊢
  clear HWD
  refine tkH ?_ 0 hH ?_ ?_; rotate_left
  · intro W' hS; go_simp; with_reducible rfl
  simp only [tkr]
  refine tkH ?_ 1 hH ?_ ?_; rotate_left
  · intro W' hS; go_simp; with_reducible rfl
  simp only [tkr]
  refine tkH ?_ 2 hH ?_ ?_; rotate_left
  · intro W' hS; go_simp; with_reducible rfl
  simp only [tkr]
  refine tkH ?_ 3 hH ?_ ?_; rotate_left
  · intro W' hS; go_simp; with_reducible rfl
  simp only [tkr]
  refine tkH ?_ 4 hH ?_ ?_; rotate_left
  · intro W' hS; go_simp; with_reducible rfl
  simp only [tkr]
  refine tkH ?_ 5 hH ?_ ?_; rotate_left
  · intro W' hS; go_simp; with_reducible rfl
  simp only [tkr]
  refine tkH ?_ 6 hH ?_ ?_; rotate_left
  · intro W' hS; go_simp; with_reducible rfl
  simp only [tkr]
  refine tkH ?_ 7 hH ?_ ?_; rotate_left
  · intro W' hS; go_simp; with_reducible rfl
  simp only [tkr]
  refine tkH ?_ 8 hH ?_ ?_; rotate_left
  · intro W' hS; go_simp; with_reducible rfl
  simp only [tkr]
  refine rdH 9 rfl (fun K hK => ?_)
  go_simp
  refine (HNL.out WD HBD.out).mono ?_
  rintro e W3 ⟨n, rfl, n1, n2, n3, hst⟩
  have nz : ∀ z, w.heap.size ≤ z → ¬ F z := fun z hz hf => by have := HLT.out z hf; omega
  have hS1 := hH.kp hst.kp ⟨HNF.out _ (.inl rfl), HNF.out _ (.inr (.inl rfl)), HNF.out _ (.inr (.inr rfl)), nz _ HZ.out.1⟩
  have ST := Lib.hid hst
  have NN := Lib.hid (And.intro n1 (And.intro n2 n3))
  have hO2 := hst.kp.own HIO.out (fun q hq => nz q (HA3.out q hq))
  have hs1 : w.heap.size ≤ W3.heap.size := Nat.le_trans HBD.out.size hst.kp.size
  have HWK := Lib.hid (HWK2.out n A3 c3 W3 hO2 hs1)
  clear hst n1 n2 n3 hO2 hs1 hH
  simp only
  refine hK.out _ _ ?_ (fun hH => ?_)
  · exact hS1
  clear hK K hS1
  refine rdH 10 rfl (fun K hK => ?_)
  go_simp
  refine HWK.out.mono ?_
  rintro e W4 ⟨A4, c4, rfl, io, ik, ib⟩
  have hw0 := HW.out.1.lt
  have hw1 := HW.out.2.1.lt
  have hw2 := HW.out.2.2.lt
  have NKZ : ∀ z, z < w.heap.size ∨ zc ≤ z → ¬ (Value.slice A3 1 c3).ownBlock = some z := fun z hz e => by have h1 := HA3.out z e; have h2 := HK3.out z e; omega
  have hS2 := hH.kp ik ⟨NKZ _ (.inl hw0), NKZ _ (.inl hw1), NKZ _ (.inl hw2), NKZ _ (.inr (Nat.le_refl _))⟩
  have nFn : ∀ q, w.heap.size ≤ q → q < WD.heap.size → ¬ Fn F WD W3 q := fun q h1 h2 hf => by
    rcases hf with hf | hf
    · exact nz q h1 hf
    · have h3 : WD.heap.size ≤ q := hf.1
      omega
  have har : Ar W4 x.b most (upd M n (some (⟨x.ow, 0, 13, [k, v], []⟩, 1))) (Fn F WD W3) := ST.out.ar.kp ik (fun q hq e => nFn q (HA3.out q e) (by have := HK3.out q e; have := HZ.out; omega) hq)
  have f4 : ∀ q, (Value.slice A4 2 c4).ownBlock = some q → ¬ Fn F WD W3 q := fun q hq hf => by
    rcases ib q hq with h | h
    · exact nFn q (HA3.out q h) (by have := HK3.out q h; have := HZ.out; omega) hf
    · rcases hf with hf | hf
      · have := HLT.out q hf
        have := HBD.out.size
        have := ST.out.kp.size
        omega
      · have h3 : q < W3.heap.size := hf.2
        omega
  have HM := Lib.hid (HMK.out n W4 (Fn F WD W3) A4 c4 NN.out.2.2 ⟨NN.out.1, NN.out.2.1⟩ har io f4)
  have HS4 := Lib.hid hS2
  have HKK := Lib.hid (show Kp F w W4 from ((Kp.of_below HBD.out F).trans ST.out.kp (fun _ h => .inl h)).trans ik (fun q e => .inr (HA3.out q e)))
  have DOM := Lib.hid (show ∀ q, Fn F WD W3 q → F q ∨ w.heap.size ≤ q from fun q hq => by
    rcases hq with hq | hq
    · exact .inl hq
    · exact .inr (Nat.le_trans HBD.out.size hq.1))
  have DOM2 := Lib.hid (show ∀ q, w.heap.size ≤ q → Fn F WD W3 q → WD.heap.size ≤ q from fun q h1 hq => by
    rcases hq with hq | hq
    · exact absurd hq (nz q h1)
    · exact hq.1)
  have NZ := Lib.hid nz
  clear io ik ib NKZ hS2 nFn har f4 nz hw0 hw1 hw2 hH
  simp only
  refine hK.out _ _ ?_ (fun hH => ?_)
  · exact HS4.out
  clear hK K
  refine rdH 11 rfl (fun K hK => ?_)
  go_simp
  refine HM.out.mono ?_
  rintro e W5 ⟨n4, rfl, p1, p2, p3, p4, p5⟩
  have nq : ∀ z, z < w.heap.size → ¬ F z → ¬ Fn F WD W3 z := fun z hz hn hf => by
    rcases hf with hf | hf
    · exact hn hf
    · have h3 : WD.heap.size ≤ z := hf.1
      have h4 := HBD.out.size
      omega
  have hS5 := HS4.out.kp p5 ⟨nq _ HW.out.1.lt (HNF.out _ (.inl rfl)), nq _ HW.out.2.1.lt (HNF.out _ (.inr (.inl rfl))), nq _ HW.out.2.2.lt (HNF.out _ (.inr (.inr rfl))), fun hf => by
    have h1 := DOM2.out zc HZ.out.1 hf
    have h2 := HZ.out.2
    omega⟩
  have hfin : Stp w W5 x.b most (upd (upd M n (some (⟨x.ow, 0, 13, [k, v], []⟩, 1))) n4 (some (⟨x.ow, (e1 : Int), (lev : Int), [], [i].insertIdx (cnt e0 d) n⟩, 1))) F :=
    Rn.fin (F' := Fn (Fn F WD W3) W4 W5) ⟨p4, HKK.out.trans p5 DOM.out, fun q hq => by
      rcases hq with hq | hq
      · exact DOM.out q hq
      · exact .inr (Nat.le_trans HKK.out.size hq.1)⟩ HLT.out
  have hne : n4 ≠ n := fun e => by rw [e, upd_same] at p3; cases p3
  have HP := Lib.hid (show M n4 = none from by rwa [upd_other _ _ hne] at p3)
  have HP12 := Lib.hid (And.intro p1 (And.intro p2 hne))
  have HFIN := Lib.hid hfin
  have HS5 := Lib.hid hS5
  clear hS5 hfin hne p1 p2 p3 p4 p5 nq hH
  simp only
  refine hK.out _ _ ?_ (fun hH => ?_)
  · exact HS5.out
  clear hK K
  refine tkH ?_ 12 hH ?_ ?_; rotate_left
  · intro W' hS; go_simp; with_reducible rfl
  simp only [tkr]
  refine tkH ?_ 13 hH ?_ ?_; rotate_left
  · intro W' hS; go_simp; with_reducible rfl
  simp only [tkr]
  refine tkH ?_ 14 hH ?_ ?_; rotate_left
  · intro W' hS; go_simp; with_reducible rfl
  simp only [tkr]
  refine tkH ?_ 15 hH ?_ ?_; rotate_left
  · intro W' hS; go_simp; with_reducible rfl
  simp only [tkr]
  refine tkH ?_ 16 hH ?_ ?_; rotate_left
  · intro W' hS; go_simp; with_reducible rfl
  simp only [tkr]
  refine wpAnyH_done (by kernel_rfl) ?_ _
  refine NoPanic.normal ?_
  clear y0 y1 y2 y3 y4 y5 y6 y7 y8 y9 kk0 kk1 kk2 kv0 kv1 kv2 kc0 kc1 kc2 kc3 kc4
  go_wp2_with fail
  go_ret
  exact ⟨n, n4, rfl, NN.out.1, NN.out.2.1, NN.out.2.2, HP12.out.1, HP12.out.2.1, HP.out, HP12.out.2.2, HFIN.out⟩
end

end Go.Proofs.YthcpjehkjhpjfaaGreat

namespace Go.Proofs.YthcpjehkjhpjfaaGreat
set_option maxRecDepth 100000
open Go.RowKit
def ChgP (f : FuncId) (pre : Value) (b most : Nat) (F : Nat → Prop) (w : World) (M1 : Cells) (c : Hc) (R : Hc → Cells → Prop) : Prop :=
  ∀ (o : Int) (v k : Value) (W : World) (F1 : Nat → Prop), Rn w W b most M1 F F1 → (∀ q, v.ownBlock = some q → ¬ F1 q) → (∀ q, k.ownBlock = some q → ¬ F1 q) → W.ownsRow w.heap.size 43 3 v c.vals.length (c.vals.flatMap cells3) → W.ownsRow w.heap.size 3 1 k c.kids.length (nums (ns c.kids)) →
    Calls Tryz.prog f #[pre, cagg o c.a c.b v k] W fun e W' => ∃ v' k' c' M2 F2, e = .returned (cagg o c'.a c'.b v' k') ∧ Rd W' v' c'.vals.length (c'.vals.flatMap cells3) ∧ Rd W' k' c'.kids.length (nums (ns c'.kids)) ∧ Rn w W' b most M2 F F2 ∧ (∀ q, v'.ownBlock = some q → ¬ F2 q) ∧ (∀ q, k'.ownBlock = some q → ¬ F2 q) ∧ R c' M2
section
variable {b most : Nat} {M : Cells} {F : Nat → Prop}
set_option maxRecDepth 100000 in
set_option maxHeartbeats 4000000 in
theorem vrenewP (f : FuncId) (pre : Value) (R : Hc → Cells → Prop) (i : Nat) (ow : Int) (c0 : Hc) (w : World) (h : Ar w b most M F) (hf : ∀ (args : Array Value) (W : World), (callFunc f args).run Tryz.prog W = .ok (.enter f args) W) (hc0 : contC M i = c0) (hal : aloneB M i ow = false) (hch : ChgP f pre b most F w (keepAll M c0.kids) c0 R)
    (hr : ∀ j, rf (M j) + c0.kids.length ≤ 4611686018427387900) (nl : c0.kids.length ≤ 4194304)
    (hR : ∀ c' M2, R c' M2 → live (most + 1) M2 < most ∧ (∀ j, rf (M2 j) ≤ 4611686018427387900) ∧ c'.vals.length ≤ 4194304 ∧ c'.kids.length ≤ 4194304 ∧ (ns c'.kids).all (goodB M2) = true) :
    Calls Tryz.prog 196 #[ap b, .int .i64 i, .int .u32 ow, .func (.func f) #[pre] #[]] w fun e w' => ∃ n c' M2 M', e = .returned (.int .i64 (n : Nat)) ∧ R c' M2 ∧ 1 ≤ n ∧ n ≤ most ∧ M2 n = none ∧ Drops (upd M2 n (some ({ c' with owner := ow }, 1))) [i] M' ∧ Stp w w' b most M' F := by
  have HA := Lib.hid h
  have HC := Lib.hid hch
  have HR := Lib.hid hr
  clear h hch hr
  have hget := vget i w HA.out
  rw [hc0] at hget
  go_enter Tryz.func196, Tryz.ntmps196
  go_wp2_with fail
  refine hget.mono ?_
  rintro e w1 ⟨v, k, rfl, o1, o2, hb1⟩
  obtain ⟨A1, m1, rfl, _⟩ := (Rd.of_own o1).form
  obtain ⟨A2, m2, rfl, _⟩ := (Rd.of_own o2).form
  have O1 := Lib.hid o1
  have O2 := Lib.hid o2
  have B1 := Lib.hid hb1
  clear o1 o2 hb1 hget
  go_wp2_with fail
  refine (valone i ow _ (HA.out.below (B1.out.alloc B1.out.size _))).mono ?_
  rintro e w2 ⟨rfl, hb2⟩
  rw [hal]
  have hb12 : Below w1.heap.size w1 w2 := ((Below.refl _ w1).alloc (Nat.le_refl _) _).trans (hb2.mono (by simp))
  have q1 := (C5.new w1 136 (.int .u32 c0.owner) (.int .u32 c0.a) (.int .u32 c0.b) (.slice A1 c0.vals.length m1) (.slice A2 c0.kids.length m2)).below hb2
  have HB2 := Lib.hid (B1.out.trans (hb12.mono B1.out.size))
  have HZ := Lib.hid (show w.heap.size ≤ w1.heap.size ∧ w1.heap.size < w2.heap.size from ⟨B1.out.size, q1.lt⟩)
  have HK0 := Lib.hid (Kept.mk (w2 := w2) (wr := w2) (B := w.heap.size) (c := c0) (j := 0) (M := M) (b := b) (most := most) (F := F) (Stp.refl (HA.out.below HB2.out)) q1 ((Kp.of_below hb12 (fun _ => False)).own O1.out (fun _ _ => id)) ((Kp.of_below hb12 (fun _ => False)).own O2.out (fun _ _ => id)))
  have HF := Lib.hid (show ∀ x, F x → x < w.heap.size from fun x hx => HA.out.lt hx)
  generalize w1.heap.size = z1 at q1 HZ HK0 ⊢
  have HB1 := Lib.hid B1.out.size
  clear O1 O2 B1 hb2 hb12
  obtain ⟨c1, c2, c3, c4, c5, _⟩ := q1.all
  clear q1
  go_wp2_with fail
  clear c1 c2 c3 c4 c5
  go_loopg [36] c0.kids.length (fun c' iv wr => ∃ j : Nat, j + c' = c0.kids.length ∧ iv = .int .i64 j ∧ Kept w2 wr b most M F w.heap.size z1 c0 (.slice A1 c0.vals.length m1) (.slice A2 c0.kids.length m2) j)
  case atStart => exact ⟨0, by omega, rfl, HK0.out⟩
  case round =>
    obtain ⟨j, hj, rfl, hK⟩ := hrel
    by_cases h1 : j < c0.kids.length
    · obtain ⟨x, hx⟩ : ∃ x, c0.kids[j]? = some x := ⟨_, List.getElem?_eq_getElem h1⟩
      obtain ⟨gx, cx, e, _, hcell, _⟩ := own_at hK.o2 (j := j) (u := .int .i64 (x : Int)) (by rw [nums_at]; unfold ns; rw [List.getElem?_map, hx]; rfl)
      simp only [Value.slice.injEq, true_and] at e
      obtain ⟨rfl, rfl⟩ := e
      have HK := Lib.hid hK
      have HX := Lib.hid hx
      clear hK hx
      have y3 : (0 : Int) ≤ (j : Int) := by omega
      have y4 : (j : Int) < (c0.kids.length : Int) := by omega
      have hrx : rf (keepAll M (c0.kids.take j) x) ≤ 4611686018427387904 := by
        have h1 := keepAll_rf (j := x) (l := c0.kids.take j) (M := M)
        have h2 := HR.out x
        rw [List.length_take] at h1
        omega
      go_wp2_with (go_at_call 81; refine (vkeep1 x _ HK.out.st.ar hrx).mono ?_; rintro e w3 ⟨⟨zz, rfl⟩, hs⟩; have HS := Lib.hid hs; clear hs)
      go_roundg (c0.kids.length - (j + 1))
      case measure => omega
      case rel =>
        refine ⟨j + 1, by omega, by go_num, ?_, HK.out.c5.kp HS.out.kp ?_, HS.out.kp.own HK.out.o1 (fun q hq hf' => ?_), HS.out.kp.own HK.out.o2 (fun q hq hf' => ?_)⟩
        · rw [List.take_add_one, HX.out, Option.toList_some, keepAll_snoc]
          exact HK.out.st.trans HS.out
        · rintro (hf' | hf')
          · have := HF.out _ hf'; have := HZ.out; omega
          · have := HZ.out; omega
        · have h1 := (HK0.out.o1.lt q hq)
          rcases hf' with hf' | hf'
          · have := HF.out _ hf'; omega
          · omega
        · have h1 := (HK0.out.o2.lt q hq)
          rcases hf' with hf' | hf'
          · have := HF.out _ hf'; omega
          · omega
    · obtain rfl : j = c0.kids.length := by omega
      have HK := Lib.hid hK
      clear hK
      obtain ⟨c1, c2, c3, c4, c5, f1, _⟩ := HK.out.c5.all
      have hzn : ¬ Fn F w2 wr z1 := by
        rintro (hf' | hf')
        · have := HF.out _ hf'; have := HZ.out; omega
        · have := HZ.out; omega
      have hvn : ∀ q, (Value.slice A1 c0.vals.length m1).ownBlock = some q → w.heap.size ≤ q ∧ ¬ Fn F w2 wr q := fun q hq => by
        have h1 := (HK0.out.o1.lt q hq)
        refine ⟨h1.1, ?_⟩
        rintro (hf' | hf')
        · have := HF.out _ hf'; omega
        · omega
      have hkn : ∀ q, (Value.slice A2 c0.kids.length m2).ownBlock = some q → w.heap.size ≤ q ∧ ¬ Fn F w2 wr q := fun q hq => by
        have h1 := (HK0.out.o2.lt q hq)
        refine ⟨h1.1, ?_⟩
        rintro (hf' | hf')
        · have := HF.out _ hf'; omega
        · omega
      have HVN := Lib.hid hvn
      have HKN := Lib.hid hkn
      have kz := Kp.one wr z1 0 (.int .u32 ow)
      have hz1 : w.heap.size ≤ z1 := by have := HZ.out; omega
      have kw := ((Kp.of_below HB2.out F).trans HK.out.st.kp (fun _ => .inl)).trans kz (fun q e => .inr (e ▸ hz1))
      have p1 := Lib.hid (kz.own HK.out.o1 (own_ne HK.out.o1 HK.out.c5 (by decide)))
      have p2 := Lib.hid (kz.own HK.out.o2 (own_ne HK.out.o2 HK.out.c5 (by decide)))
      have KW := Lib.hid kw
      have AW := Lib.hid (HK.out.st.ar.kp kz (fun q hq e => hzn (e ▸ hq)))
      clear kz kw hvn hkn
      go_wp2_with fail
      generalize wr.setCell ⟨z1, 0, none⟩ (.int .u32 ow) = w3 at p1 p2 KW AW ⊢
      have RN3 := Lib.hid (show Rn w w3 b most (keepAll M c0.kids) F (Fn F w2 wr) from ⟨by have := AW.out; rw [List.take_length] at this; exact this, KW.out, fun q hq => hq.elim .inl (fun hq => .inr (Nat.le_trans HB2.out.size hq.1))⟩)
      refine (HC.out ow _ _ w3 _ RN3.out (fun q hq => (HVN.out q hq).2) (fun q hq => (HKN.out q hq).2) p1.out p2.out).mono ?_
      rintro e w4 ⟨v', k', c', M2, F2, rfl, r1, r2, rn4, hn1, hn2, hr'⟩
      obtain ⟨A3, m3, rfl, _⟩ := r1.form
      obtain ⟨A4, m4, rfl, _⟩ := r2.form
      obtain ⟨hlv, hrf, nv, nk, hgd⟩ := hR c' M2 hr'
      have R1 := Lib.hid r1
      have R2 := Lib.hid r2
      have RN4 := Lib.hid rn4
      have N1 := Lib.hid hn1
      have N2 := Lib.hid hn2
      have HRR := Lib.hid hr'
      clear r1 r2 rn4 hn1 hn2 hr' c1 c2 c3 c4 c5 f1
      go_wp2_with fail
      refine (amake { c' with owner := ow } _ _ b most _ _ _ RN4.out.ar R1.out R2.out nv nk N1.out N2.out hgd hlv).mono ?_
      rintro e w5 ⟨n, rfl, n1, n2, n3, ha5, hk5⟩
      have RN5 := Lib.hid (RN4.out.stp (Stp.mk ha5 hk5))
      have hr5 : ∀ q, rf (upd M2 n (some ({ c' with owner := ow }, 1)) q) ≤ 4611686018427387904 := fun q => by
        by_cases e : q = n
        · subst e; rw [upd_same]; show 1 ≤ _; decide
        · rw [upd_other _ _ e]
          exact Nat.le_trans (hrf q) (by decide)
      clear ha5 hk5
      go_wp2_with fail
      refine (vdrop1 i _ RN5.out.ar hr5).mono ?_
      rintro e w6 ⟨⟨zz, rfl⟩, M', hd, hs6⟩
      have HD := Lib.hid hd
      have HE := Lib.hid ((RN5.out.stp hs6).fin HF.out)
      clear hd hs6
      go_wp2_with fail
      go_ret
      exact ⟨n, c', M2, M', rfl, HRR.out, n1, n2, n3, HD.out, HE.out⟩
end

section
variable {b most : Nat} {M : Cells} {F : Nat → Prop}
set_option maxRecDepth 100000 in
set_option maxHeartbeats 2000000 in
theorem vrenewP_in (f : FuncId) (pre : Value) (R : Hc → Cells → Prop) (i : Nat) (ow : Int) (c0 : Hc) (w : World) (h : Ar w b most M F) (hf : ∀ (args : Array Value) (W : World), (callFunc f args).run Tryz.prog W = .ok (.enter f args) W) (hi : M i = some (c0, 1)) (ho : c0.owner = ow) (h0 : ¬ ow = 0) (hch : ChgP f pre b most F w M c0 R)
    (hR : ∀ c' M2, R c' M2 → M2 i = some (c0, 1) ∧ c'.vals.length ≤ 4194304 ∧ c'.kids.length ≤ 4194304 ∧ (ns c'.kids).all (goodB M2) = true) :
    Calls Tryz.prog 196 #[ap b, .int .i64 i, .int .u32 ow, .func (.func f) #[pre] #[]] w fun e w' => ∃ c' M2, e = .returned (.int .i64 (i : Int)) ∧ R c' M2 ∧ Stp w w' b most (upd M2 i (some ({ c' with owner := ow }, 1))) F := by
  have hal : aloneB M i ow = true := by unfold aloneB; rw [hi]; simp [h0, ho]
  have HA := Lib.hid h
  have HI := Lib.hid hi
  have HC := Lib.hid hch
  have HF := Lib.hid (show ∀ x, F x → x < w.heap.size from fun x hx => h.lt hx)
  clear h hi hch
  go_enter Tryz.func196, Tryz.ntmps196
  go_wp2_with fail
  refine (get i c0 1 b most M F _ HA.out HI.out).mono ?_
  rintro e w1 ⟨v, k, rfl, o1, o2, hb1⟩
  obtain ⟨A1, m1, rfl, _⟩ := (Rd.of_own o1).form
  obtain ⟨A2, m2, rfl, _⟩ := (Rd.of_own o2).form
  have O1 := Lib.hid o1
  have O2 := Lib.hid o2
  have B1 := Lib.hid hb1
  clear o1 o2 hb1
  go_wp2_with fail
  refine (valone i ow _ (HA.out.below (B1.out.alloc B1.out.size _))).mono ?_
  rintro e w2 ⟨rfl, hb2⟩
  rw [hal]
  have hb12 : Below w1.heap.size w1 w2 := ((Below.refl _ w1).alloc (Nat.le_refl _) _).trans (hb2.mono (by simp))
  have q1 := (C5.new w1 136 (.int .u32 ow) (.int .u32 c0.a) (.int .u32 c0.b) (.slice A1 c0.vals.length m1) (.slice A2 c0.kids.length m2)).below hb2
  have O1' := Lib.hid ((Kp.of_below hb12 (fun _ => False)).own O1.out (fun _ _ => id))
  have O2' := Lib.hid ((Kp.of_below hb12 (fun _ => False)).own O2.out (fun _ _ => id))
  have HB2 := Lib.hid (B1.out.trans (hb12.mono B1.out.size))
  generalize w1.heap.size = z1 at q1 ⊢
  obtain ⟨c1, c2, c3, c4, c5, _⟩ := q1.all
  clear O1 O2 B1 hb2 hb12 q1
  have HN1 := Lib.hid (show ∀ q, (Value.slice A1 c0.vals.length m1).ownBlock = some q → ¬ F q from fun q hq hf' => by
    have h1 := O1'.out.lt q hq
    have := HF.out q hf'; omega)
  have HN2 := Lib.hid (show ∀ q, (Value.slice A2 c0.kids.length m2).ownBlock = some q → ¬ F q from fun q hq hf' => by
    have h1 := O2'.out.lt q hq
    have := HF.out q hf'; omega)
  have RN2 := Lib.hid (show Rn w w2 b most M F F from Rn.below HA.out HB2.out)
  go_wp2_with fail
  refine (HC.out ow _ _ w2 F RN2.out HN1.out HN2.out O1'.out O2'.out).mono ?_
  rintro e w3 ⟨v', k', c', M2, F2, rfl, r1, r2, rn3, hn1, hn2, hr'⟩
  obtain ⟨A3, m3, rfl, _⟩ := r1.form
  obtain ⟨A4, m4, rfl, _⟩ := r2.form
  obtain ⟨hi2, nv, nk, hgd⟩ := hR c' M2 hr'
  have R1 := Lib.hid r1
  have R2 := Lib.hid r2
  have RN3 := Lib.hid rn3
  have HRR := Lib.hid hr'
  have HI2 := Lib.hid hi2
  clear r1 r2 rn3 hn1 hn2 hr' hi2 c1 c2 c3 c4 c5
  go_wp2_with fail
  refine (aeditO i ow ow c' c0 { c' with owner := ow } _ _ b most M2 _ _ RN3.out.ar HI2.out ho.symm h0 rfl R1.out R2.out nv nk hgd).mono ?_
  rintro e w4 ⟨rfl, ha4, hk4⟩
  have HE := Lib.hid ((RN3.out.stp (Stp.mk ha4 hk4)).fin HF.out)
  clear ha4 hk4
  go_wp2_with fail
  go_ret
  exact ⟨c', M2, rfl, HRR.out, HE.out⟩
end

section
variable {b most : Nat} {M : Cells} {F : Nat → Prop} {H : List Nat} {P : Nat → Nat}
theorem renewBP {P0 : Nat → Nat} (f : FuncId) (pre : Value) (i : Nat) (ow : Int) (c0 : Hc) (q : Nat) (Q : Cells → List Nat → Hc → Cells → Prop) (w : World) (h : Ar w b most M F) (hf : ∀ (args : Array Value) (W : World), (callFunc f args).run Tryz.prog W = .ok (.enter f args) W)
    (hm : most ≤ 1048576) (hPP : ∀ k, P k ≤ P0 k) (hP : ∀ j, P0 j ≤ 1152921504606846976) (hb : Bk (most + 1) M H P0 [i]) (hc0 : contC M i = c0) (hroom : live (most + 1) M + q + (if aloneB M i ow = true then 0 else 1) ≤ most)
    (hch : ∀ M1 H1, Way1 most M H P0 i ow c0 M1 H1 → ChgP f pre b most F w M1 c0 (Fun most M1 H1 (addP P i) q (Q M1 H1))) :
    Calls Tryz.prog 196 #[ap b, .int .i64 i, .int .u32 ow, .func (.func f) #[pre] #[]] w fun e w' => ∃ n M', e = .returned (.int .i64 (n : Nat)) ∧ Stp w w' b most M' F ∧
      ∃ M1 H1 c' M2, Way1 most M H P0 i ow c0 M1 H1 ∧ Q M1 H1 c' M2 ∧ Ren most M H P ow (q + if aloneB M i ow = true then 0 else 1) n M' c' M2 H1 := by
  have hsm : c0.kids.length ≤ 64 := by
    rw [← hc0]
    unfold contC
    have := hb.small i
    cases e : M i with
    | none => simp
    | some y => rw [e] at this; exact this
  cases hal : aloneB M i ow with
  | true =>
    obtain ⟨c, hM, hco, h0⟩ := alone_cell hal
    have e0 : c = c0 := by rw [← hc0]; unfold contC; rw [hM]
    subst e0
    have hw := way_in hb hM hal
    refine (vrenewP_in f pre (Fun most M (i :: H) (addP P i) q (Q M (i :: H))) i ow c w h hf hM hco h0 (hch M (i :: H) hw) (fun c' M2 hq => ?_)).mono ?_
    · refine ⟨(hq.holes i (by simp)).trans hM, hq.nv, Nat.le_trans hq.nk (by decide), good_kids fun x hx h0 => (hq.bk.hand hx h0).1⟩
    · rintro e w' ⟨c', M2, rfl, hq, hs⟩
      refine ⟨i, _, rfl, hs, M, i :: H, c', M2, hw, hq.q, ?_⟩
      exact ren_in hb (hw.keeps.less hPP) (by have h1 := (alone_held hb hM).1; have h2 := hPP i; omega) hM hq
  | false =>
    have hw := way_new hb hc0 hal
    rw [hal] at hroom
    simp only [Bool.false_eq_true, if_false] at hroom
    have hrf : ∀ j, rf (M j) ≤ 1152921504606846976 + 1 + 67108928 := fun j => by
      have h1 := hb.rfb j
      have h2 := hP j
      have h3 : [i].count j ≤ 1 := List.count_le_length
      have h4 : (most + 1) * 64 ≤ 1048577 * 64 := Nat.mul_le_mul_right _ (by omega)
      omega
    refine (vrenewP f pre (Fun most (keepAll M c0.kids) H (addP P i) q (Q (keepAll M c0.kids) H)) i ow c0 w h hf hc0 hal (hch _ H hw) (fun j => by have := hrf j; omega) (by omega) (fun c' M2 hq => ?_)).mono ?_
    · refine ⟨?_, fun j => ?_, hq.nv, Nat.le_trans hq.nk (by decide), good_kids fun x hx h0 => (hq.bk.hand hx h0).1⟩
      · have h1 := hq.live
        have h2 := hw.live
        omega
      · have h1 := hq.bk.rfb j
        have h2 := hP j
        have h6 := hPP j
        have h3 : c'.kids.count j ≤ 64 := Nat.le_trans List.count_le_length hq.nk
        have h4 : (most + 1) * 64 ≤ 1048577 * 64 := Nat.mul_le_mul_right _ (by omega)
        have h5 : addP P i j ≤ P j + 1 := by unfold addP; split <;> omega
        omega
    · rintro e w' ⟨n, c', M2, M', rfl, hq, n1, n2, n3, hd, hs⟩
      refine ⟨n, M', rfl, hs, _, H, c', M2, hw, hq.q, ?_⟩
      exact ren_new hb (hw.keeps.less hPP) hw hq (fun x hx => by
        have h1 := (hw.bk.hole x hx).2
        have h2 := (hb.hole x hx).2
        obtain ⟨y, e⟩ : ∃ y, M x = some y := by
          cases e : M x with
          | none => rw [e] at h2; simp [rf] at h2
          | some y => exact ⟨y, rfl⟩
        obtain ⟨q', e'⟩ := all_keepAll (l := c0.kids) x y.1 y.2 e
        rw [e'] at h1
        rw [e] at h2
        simp only [rf] at h1 h2
        rw [e', e, h1, ← h2]) n1 n2 n3 hd
end


end Go.Proofs.YthcpjehkjhpjfaaGreat

namespace Go.Proofs.YthcpjehkjhpjfaaGreat
open Go.RowKit

theorem del_infoI : (Tryz.prog.info? 3).map (fun i => (i.zero, i.size, i.bytes)) = some (some (.int .i64 0), 1, 8) := by kernel_rfl
theorem del_zeroI (w : World) : (zeroValue 3).run Tryz.prog w = .ok (.int .i64 0) w := by kernel_rfl
theorem del_zerosI : (Builtin.zeroCells ((.int .i64 0) : Value).cells 1).toList = [.int .i64 0] := by kernel_rfl
set_option maxRecDepth 100000 in
set_option maxHeartbeats 1600000 in
theorem vdeleteI (base g n cp k : Nat) (xs : List Value) (w : World) (h : w.ownsRow base 3 1 (.slice (some ⟨g, 0, none⟩) n cp) n xs) (hk : k + 1 ≤ n) (h1x : ∀ u ∈ xs, u.oneCell' = true) :
    Calls Tryz.prog 200 #[.slice (some ⟨g, 0, none⟩) n cp, .int .i64 k, .int .i64 ((k : Int) + 1)] w fun x w' => x = .returned (.slice (some ⟨g, 0, none⟩) (n - 1 : Nat) cp) ∧
      w'.ownsRow base 3 1 (.slice (some ⟨g, 0, none⟩) (n - 1) cp) (n - 1) (xs.take (k) ++ xs.drop ((k + 1))) ∧ Kp (fun q => q = g) w w' := by
  obtain ⟨i1, hi1, hy0, hy1, hy2⟩ := info_parts del_infoI
  have hcp := own_cap h
  have hxl : xs.length = n * 1 := h.1
  have HW := Lib.hid h
  have hkn : (k : Int) + 1 ≤ (n : Int) := by omega
  have hnc : (n : Int) ≤ (cp : Int) := by omega
  have hk1 : (k : Int) ≤ (k : Int) + 1 := by omega
  have hk0 : (0 : Int) ≤ (k : Int) := by omega
  have hcm := hcp.2
  have hne : ¬ (k : Int) = (k : Int) + 1 := by omega
  have hneb : ((k : Int) == (k : Int) + 1) = false := by simpa using hne
  have htn : ((k : Int) + 1).toNat = k + 1 := by omega
  have hcell : ∀ j u, xs[j]? = some u → w.drew.cell? ⟨g, j, none⟩ = some u ∧ w.drew.frozen? ⟨g, j, none⟩ = false := fun j u hj => by
    obtain ⟨g', c', e1, _, h1, h2⟩ := own_at h (j := j) (u := u) hj
    simp only [Value.slice.injEq, Option.some.injEq, Addr.mk.injEq, and_true, true_and] at e1
    obtain ⟨rfl, _⟩ := e1
    exact ⟨h1, h2⟩
  have hex : ∀ j, j < n * 1 → ∃ u, xs[j]? = some u := fun j hj => ⟨_, List.getElem?_eq_getElem (by omega)⟩
  clear h
  obtain ⟨news, hnews⟩ : ∃ news, news = xs.drop ((k + 1)) := ⟨_, rfl⟩
  have s1 := Lib.hid (show news.length = (n - (k + 1)) * (1) by rw [hnews, List.length_drop, hxl]; omega)
  have s2 := Lib.hid (show ∀ u ∈ news, u.oneCell' = true from fun u hu => h1x u (by rw [hnews] at hu; exact List.mem_of_mem_drop hu))
  have s3 := Lib.hid (show ∀ j, j < news.length → (w.drew.cell? ⟨g, 0 + k * (1) + j, none⟩).isSome = true ∧ w.drew.frozen? ⟨g, 0 + k * (1) + j, none⟩ = false from fun j hj => by
    rw [s1.out] at hj
    obtain ⟨u, hu⟩ := hex (0 + k * (1) + j) (by omega)
    obtain ⟨h1, h2⟩ := hcell _ u hu
    exact ⟨by rw [h1]; rfl, h2⟩)
  have hnewsat : ∀ j, news[j]? = xs[(k + 1) + j]? := fun j => by rw [hnews, List.getElem?_drop]
  have z1 : k ≤ cp := by omega
  have z2 : k + 1 ≤ n := by omega
  have z3 : k + 1 ≤ cp := by omega
  have z4 : (0 : Int) ≤ (k : Int) + 1 := by omega
  have z5 : k + (n - (k + 1)) = n - 1 := by omega
  -- the row behind the append, and behind clear
  obtain ⟨W2, hW2⟩ : ∃ W2, W2 = w.drew.setCells g (0 + k * (1)) news := ⟨_, rfl⟩
  have hW := Lib.hid hW2
  obtain ⟨ys2, o2, l2, at2⟩ := own_sets news (0 + k * (1)) w.drew _ HW.out.drew (by rw [s1.out]; omega)
  rw [← hW2] at o2
  have hkp2 : Kp (fun q => q = g) w W2 := by rw [hW2]; exact Kp.sets (F := fun q => q = g) (g := g) (.inl rfl) _ _ _ (Kp.of_below (Below.refl _ w).drew _)
  obtain ⟨zs, hzs⟩ : ∃ zs : List Value, zs = [.int .i64 0] := ⟨_, rfl⟩
  have hzl : zs.length = 1 := by rw [hzs]; rfl
  have hc2 : ∀ j, j < 1 → (W2.cell? ⟨g, (n - 1) + j, none⟩).isSome = true ∧ W2.frozen? ⟨g, (n - 1) + j, none⟩ = false := fun j hj => by
    have hl2 : ys2.length = n * 1 := by rw [l2, hxl]
    obtain ⟨g', c', e1, _, h1, h2⟩ := own_at o2 (j := (n - 1) + j) (List.getElem?_eq_getElem (by omega))
    simp only [Value.slice.injEq, Option.some.injEq, Addr.mk.injEq, and_true, true_and] at e1
    obtain ⟨rfl, _⟩ := e1
    exact ⟨by rw [h1]; rfl, h2⟩
  have hcl : ∀ ty, (Builtin.clear_ #[82] ty #[.slice (some ⟨g, (n - 1), none⟩) 1 (cp - (n - 1))]).run Tryz.prog W2 = .ok (.tuple #[]) (W2.setCells g ((n - 1)) zs) := fun ty =>
    run_clear_cells W2 _ _ ty _ zs 1 (by decide) Tryz.underlying82 del_zeroI (by rw [hzs]; exact del_zerosI) (fun u hu => by
      rw [hzs] at hu
      simp only [List.mem_cons, List.not_mem_nil, or_false] at hu
      subst hu; rfl) g _ _ (fun j hj => (hc2 j (by omega)).1) (fun j hj => (hc2 j (by omega)).2)
  obtain ⟨ys3, o3, l3, at3⟩ := own_sets zs ((n - 1)) W2 _ o2 (by rw [hzl]; omega)
  have hfin : (W2.setCells g ((n - 1)) zs).ownsRow base 3 1 (.slice (some ⟨g, 0, none⟩) (n - 1) cp) (n - 1) (xs.take (k) ++ xs.drop ((k + 1))) := by
    have h1 := own_first o3 (m := n - 1) (by omega)
    have h2 : ys3.take ((n - 1) * (1)) = xs.take (k) ++ xs.drop ((k + 1)) := by
      apply List.ext_getElem?
      intro j
      have la : (xs.take (k)).length = k := by rw [List.length_take, hxl]; omega
      by_cases hj : j < (n - 1)
      · rw [List.getElem?_take_of_lt (show j < (n - 1) * (1) by omega), at3 j, if_neg (by omega), at2 j]
        by_cases h1 : j < k
        · rw [if_neg (by omega), List.getElem?_append_left (by omega), List.getElem?_take_of_lt h1]
        · rw [if_pos (by rw [s1.out]; omega), List.getElem?_append_right (by omega), la, hnews]
          congr 1; omega
      · rw [List.getElem?_eq_none (by rw [List.length_take]; omega), List.getElem?_eq_none (by rw [List.length_append, la, List.length_drop, hxl]; omega)]
    rwa [h2] at h1
  have HFIN := Lib.hid hfin
  have HKP := Lib.hid (Kp.sets (F := fun q => q = g) (g := g) (.inl rfl) zs ((n - 1)) W2 hkp2)
  have z6 : n - (n - 1) = 1 := by omega
  have z7 : n - 1 ≤ n := by omega
  have z8 : n ≤ cp := by omega
  have z9 : ¬ cp = n - 1 := by omega
  clear hfin o3 l3 at3 hc2 hzs hzl hkp2 at2 o2 l2 hW2 hnews hcp hxl
  go_enter Tryz.func200, Tryz.ntmps200
  go_wp2_with fail
  by_cases hcap : cp = k + 1
  · subst hcap
    have hcl1 : ∀ ty, (Builtin.clear_ #[82] ty #[.slice (some ⟨g, k, none⟩) (n - k) 1]).run Tryz.prog W2 = .ok (.tuple #[]) (W2.setCells g ((n - 1)) zs) := fun ty => by
      have h1 := hcl ty
      rw [show k + 1 - (n - 1) = 1 by omega] at h1
      rw [show n - k = 1 by omega, show k = (n - 1) by omega]
      exact h1
    clear hcl
    have hsrc := Lib.hid (show ∀ j u, news[j]? = some u → w.drew.cell? ((⟨g, 0, none⟩ : Addr).add j) = some u from fun j u hu => by
      have : news.length = 0 := by rw [s1.out]; omega
      rw [List.length_eq_zero_iff.1 this] at hu
      simp at hu)
    clear hcell hex hnewsat
    go_region_law (refine step_append_room rfl (.tmp 22) (.tmp 25) 82 rfl 3 i1 1 Tryz.underlying82 hi1 hy1 g 0 k (k + 1) (by simp [Act.eval, Act.put]) ⟨g, 0, none⟩ (n - (k + 1)) (k + 1 - (k + 1)) news (by simp [Act.eval, Act.put]; omega) s1.out hsrc.out s2.out (by omega) s3.out ?_; rw [← hW.out])
    go_wp2_with fail
    go_ret
    exact ⟨by rw [show n - 1 = k by omega]; rfl, HFIN.out, HKP.out⟩
  · have hsrc := Lib.hid (show ∀ j u, news[j]? = some u → w.drew.cell? ((⟨g, (k + 1), none⟩ : Addr).add j) = some u from fun j u hu => by
      rw [hnewsat] at hu
      rw [Addr.add_lit]
      exact (hcell _ u hu).1)
    clear hcell hex hnewsat
    go_region_law (refine step_append_room rfl (.tmp 22) (.tmp 25) 82 rfl 3 i1 1 Tryz.underlying82 hi1 hy1 g 0 k cp (by simp [Act.eval, Act.put]) ⟨g, (k + 1), none⟩ (n - (k + 1)) (cp - (k + 1)) news (by simp [Act.eval, Act.put]) s1.out hsrc.out s2.out (by omega) s3.out ?_; rw [← hW.out])
    go_wp2_with fail
    go_ret
    exact ⟨by rfl, HFIN.out, HKP.out⟩

end Go.Proofs.YthcpjehkjhpjfaaGreat

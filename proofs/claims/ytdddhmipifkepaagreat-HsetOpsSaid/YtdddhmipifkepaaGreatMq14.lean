/- Several texts in one. -/
import Derived.Test.YtdddhmipifkepaaGreatMq12
import Derived.Test.YtdddhmipifkepaaGreatMq13
import Derived.Test.YtdddhmipifkepaaGreatMq11
import Derived.Test.YtdddhmipifkepaaGreatMq07
import Derived.Test.YtdddhmipifkepaaGreatMq01
import Derived.Deep.RegionLaw
import Derived.Lib.SliceRun
import Derived.Test.YtdddhmipifkepaaGreatMq02
set_option linter.unusedSimpArgs false
namespace Go.Proofs.YtdddhmipifkepaaGreat
set_option maxRecDepth 100000


open Go.RowKit
structure Q3S (W : World) (zw zk zv zc : Nat) (x : Wv) (k v : Ky) (o ca cb : Int) (V K : Value) : Prop where
  wy : WC W zw x
  ck : C3 W zk 36 (.int .u8 k.1) (.int .i64 k.2.1) (.string k.2.2)
  cv : C3 W zv 36 (.int .u8 v.1) (.int .i64 v.2.1) (.string v.2.2)
  cc : C5 W zc 109 (.int .u32 o) (.int .u32 ca) (.int .u32 cb) V K
theorem Q3S.kp {W W' : World} {zw zk zv zc : Nat} {x : Wv} {k v : Ky} {o ca cb : Int} {V K : Value} {G : Nat → Prop} (h : Q3S W zw zk zv zc x k v o ca cb V K) (hk : Kp G W W') (hn : ¬ G zw ∧ ¬ G zk ∧ ¬ G zv ∧ ¬ G zc) : Q3S W' zw zk zv zc x k v o ca cb V K :=
  ⟨h.wy.kp hk hn.1, h.ck.kp hk hn.2.1, h.cv.kp hk hn.2.2.1, h.cc.kp hk hn.2.2.2⟩
section
variable {b most : Nat} {M1 : Cells} {F : Nat → Prop}
set_option maxHeartbeats 16000000 in
theorem chgS_put3 (x : Wv) (zw zk zv s lv : Nat) (k v : Ky) (w : World) (hwy : WC w zw x) (hk : C3 w zk 36 (.int .u8 k.1) (.int .i64 k.2.1) (.string k.2.2)) (hv : C3 w zv 36 (.int .u8 v.1) (.int .i64 v.2.1) (.string v.2.2))
    (nF : ∀ z, z = zw ∨ z = zk ∨ z = zv → ¬ F z) (c : Hc) (hs : c.a = (s : Int)) (hs2 : s < 4294967296) (hlv : c.b = (lv : Int)) (hlv2 : lv < 13) (hkl : c.kids.length ≤ 63) (hcl : cnt s (dg x.g lv) ≤ c.kids.length) (hroom : live (most + 1) M1 < most) :
    ChgS 165 #[.pointer (some ⟨zw, 0, none⟩), .pointer (some ⟨zk, 0, none⟩), .pointer (some ⟨zv, 0, none⟩)] x.b most F w M1 c
      (fun c' M2 => ∃ n : Nat, 1 ≤ n ∧ n ≤ most ∧ M1 n = none ∧ M2 = upd M1 n (some (⟨x.ow, 0, 13, [k, v], []⟩, 1)) ∧ c' = { c with kids := c.kids.insertIdx (cnt s (dg x.g lv)) n, a := ((s ||| 2 ^ dg x.g lv : Nat) : Int) }) := by
  intro o V K W F1 hRn nv nk o1 o2
  obtain ⟨A1, c1, rfl, _⟩ := (Rd.of_own o1).form
  obtain ⟨A2, c2, rfl, _⟩ := (Rd.of_own o2).form
  have nF1 : ∀ z, z < w.heap.size → ¬ F z → ¬ F1 z := fun z hz hn hf => (hRn.sub z hf).elim hn (fun h => by omega)
  have WY := hwy.kp hRn.kp (nF _ (.inl rfl))
  have CK := hk.kp hRn.kp (nF _ (.inr (.inl rfl)))
  have CV := hv.kp hRn.kp (nF _ (.inr (.inr rfl)))
  have hws := hRn.kp.size
  have hw1 := WY.lt
  have hk1 := CK.lt
  have hv1 := CV.lt
  have hw0 := hwy.lt
  have hk0 := hk.lt
  have hv0 := hv.lt
  obtain ⟨W0, hW0⟩ : ∃ W0, W0 = (W.alloc (.cells #[.int .u32 o, .int .u32 c.a, .int .u32 c.b, .slice A1 c.vals.length c1, .slice A2 c.kids.length c2] 109)).alloc (.cells #[.int .u32 0, .int .u32 0, .int .u32 0, .slice none 0 0, .slice none 0 0] 109) := ⟨_, rfl⟩
  have hsz : W0.heap.size = W.heap.size + 1 + 1 := by rw [hW0]; simp
  have hb0 : Below W.heap.size W W0 := by rw [hW0]; exact ((Below.refl _ W).alloc (Nat.le_refl _) _).alloc (by simp) _
  have q1 : C5 W0 W.heap.size 109 (.int .u32 o) (.int .u32 c.a) (.int .u32 c.b) (.slice A1 c.vals.length c1) (.slice A2 c.kids.length c2) := by
    rw [hW0]; exact (C5.new W 109 (.int .u32 o) (.int .u32 c.a) (.int .u32 c.b) (.slice A1 c.vals.length c1) (.slice A2 c.kids.length c2)).alloc _
  have q2 : C5 W0 (W.heap.size + 1) 109 (.int .u32 0) (.int .u32 0) (.int .u32 0) (.slice none 0 0) (.slice none 0 0) := by
    have := C5.new (W.alloc (.cells #[.int .u32 o, .int .u32 c.a, .int .u32 c.b, .slice A1 c.vals.length c1, .slice A2 c.kids.length c2] 109)) 109 (.int .u32 0) (.int .u32 0) (.int .u32 0) (.slice none 0 0) (.slice none 0 0)
    rw [hW0]
    simpa using this
  obtain ⟨WD, hWD⟩ : ∃ WD, WD = W0.drew := ⟨_, rfl⟩
  have hbD : Below W.heap.size W WD := by rw [hWD]; exact hb0.drew
  have hszD : WD.heap.size = W.heap.size + 1 + 1 := by rw [hWD]; exact hsz
  have q2D : C5 WD (W.heap.size + 1) 109 (.int .u32 0) (.int .u32 0) (.int .u32 0) (.slice none 0 0) (.slice none 0 0) := by rw [hWD]; exact q2
  have RND : Rn w WD x.b most M1 F F1 := hRn.mine (Kp.of_below hbD (fun _ => False)) (fun _ h => h.elim)
  have HNL := Lib.hid (vnewLeaf x k v most M1 F1 WD RND.ar hroom)
  have RN := Lib.hid RND
  have hSD : Q3S WD zw zk zv W.heap.size x k v o c.a c.b (.slice A1 c.vals.length c1) (.slice A2 c.kids.length c2) := ⟨WY.below hbD, CK.below hbD, CV.below hbD, by rw [hWD]; exact q1⟩
  have NFF := Lib.hid (show ¬ F1 zw ∧ ¬ F1 zk ∧ ¬ F1 zv ∧ ¬ F1 W.heap.size ∧ ¬ F1 (W.heap.size + 1) from ⟨nF1 _ hw0 (nF _ (.inl rfl)), nF1 _ hk0 (nF _ (.inr (.inl rfl))), nF1 _ hv0 (nF _ (.inr (.inr rfl))), hRn.notF (Nat.le_refl _), hRn.notF (Nat.le_succ _)⟩)
  have hKB := own_blk o2
  have hVB := own_blk o1
  have NKO := Lib.hid (show ∀ q, (Value.slice A2 c.kids.length c2).ownBlock = some q → w.heap.size ≤ q ∧ q < W.heap.size ∧ ¬ F1 q from fun q hq => ⟨(hKB q hq).1, (hKB q hq).2, nk q hq⟩)
  have NVO := Lib.hid (show ∀ q, (Value.slice A1 c.vals.length c1).ownBlock = some q → w.heap.size ≤ q ∧ q < W.heap.size ∧ ¬ F1 q from fun q hq => ⟨(hVB q hq).1, (hVB q hq).2, nv q hq⟩)
  have NVK := Lib.hid (show ∀ q, (Value.slice A1 c.vals.length c1).ownBlock = some q → ¬ (Value.slice A2 c.kids.length c2).ownBlock = some q from fun q hq e => by
    obtain ⟨cur, hcur⟩ := own_type o1 q hq
    exact own_ne o2 hcur (by decide) q e rfl)
  have ZZ := Lib.hid (show zw < W.heap.size ∧ zk < W.heap.size ∧ zv < W.heap.size ∧ zw < w.heap.size ∧ zk < w.heap.size ∧ zv < w.heap.size ∧ w.heap.size ≤ W.heap.size from ⟨hw1, hk1, hv1, hw0, hk0, hv0, hws⟩)
  have O1D := Lib.hid ((Kp.of_below hbD (fun _ => False)).own o1 (fun _ _ h => h))
  have O2D := Lib.hid ((Kp.of_below hbD (fun _ => False)).own o2 (fun _ _ h => h))
  have HWK := Lib.hid (fun (n : Nat) (W' : World) (hh : W'.ownsRow w.heap.size 3 1 (.slice A2 c.kids.length c2) c.kids.length (nums (ns c.kids))) (hsz' : w.heap.size ≤ W'.heap.size) => vwithKid o s lv x.g n w.heap.size c.vals.length c1 A1 (.slice A2 c.kids.length c2) c.kids W' hs2 hlv2 (by omega) hcl hh hsz')
  rw [← hs, ← hlv] at HWK
  have HSZ := Lib.hid hszD
  have Q2D := Lib.hid q2D
  have HSD := Lib.hid hSD
  have HBD := Lib.hid hbD
  have DOM := Lib.hid (show ∀ q, F1 q → q < W.heap.size from fun q hq => hRn.ar.lt hq)
  clear hRn nv nk o1 o2 hwy hk hv nF nF1 WY CK CV hws hw1 hk1 hv1 hw0 hk0 hv0 hb0 hbD q1 q2 q2D RND hsz hszD hs2 hlv2 hkl hcl hroom hKB hVB hs hlv
  have y0 : ∀ W', Q3S W' zw zk zv W.heap.size x k v o c.a c.b (.slice A1 c.vals.length c1) (.slice A2 c.kids.length c2) → W'.cell? ⟨zw, 0, none⟩ = some (ap x.b) := fun W' h => h.wy.at rfl
  have y1 : ∀ W', Q3S W' zw zk zv W.heap.size x k v o c.a c.b (.slice A1 c.vals.length c1) (.slice A2 c.kids.length c2) → W'.cell? ⟨zw, 1, none⟩ = some (.pointer (some ⟨x.bh, 0, none⟩)) := fun W' h => h.wy.at rfl
  have y2 : ∀ W', Q3S W' zw zk zv W.heap.size x k v o c.a c.b (.slice A1 c.vals.length c1) (.slice A2 c.kids.length c2) → W'.cell? ⟨zw, 2, none⟩ = some (.int .u32 x.ow) := fun W' h => h.wy.at rfl
  have y3 : ∀ W', Q3S W' zw zk zv W.heap.size x k v o c.a c.b (.slice A1 c.vals.length c1) (.slice A2 c.kids.length c2) → W'.cell? ⟨zw, 3, none⟩ = some (.int .u64 x.g) := fun W' h => h.wy.at rfl
  have y4 : ∀ W', Q3S W' zw zk zv W.heap.size x k v o c.a c.b (.slice A1 c.vals.length c1) (.slice A2 c.kids.length c2) → W'.cell? ⟨zw, 4, none⟩ = some (.int .i64 x.root) := fun W' h => h.wy.at rfl
  have y5 : ∀ W', Q3S W' zw zk zv W.heap.size x k v o c.a c.b (.slice A1 c.vals.length c1) (.slice A2 c.kids.length c2) → W'.cell? ⟨zw, 5, none⟩ = some (.slice x.A4 x.n4 x.c4) := fun W' h => h.wy.at rfl
  have y6 : ∀ W', Q3S W' zw zk zv W.heap.size x k v o c.a c.b (.slice A1 c.vals.length c1) (.slice A2 c.kids.length c2) → W'.cell? ⟨zw, 6, none⟩ = some (.slice x.A5 x.n5 x.c5) := fun W' h => h.wy.at rfl
  have y7 : ∀ W', Q3S W' zw zk zv W.heap.size x k v o c.a c.b (.slice A1 c.vals.length c1) (.slice A2 c.kids.length c2) → W'.cell? ⟨zw, 7, none⟩ = some (.slice x.A6 x.n6 x.c6) := fun W' h => h.wy.at rfl
  have y8 : ∀ W', Q3S W' zw zk zv W.heap.size x k v o c.a c.b (.slice A1 c.vals.length c1) (.slice A2 c.kids.length c2) → W'.cell? ⟨zw, 8, none⟩ = some (.int .i64 x.at') := fun W' h => h.wy.at rfl
  have y9 : ∀ W', Q3S W' zw zk zv W.heap.size x k v o c.a c.b (.slice A1 c.vals.length c1) (.slice A2 c.kids.length c2) → W'.cell? ⟨zw, 9, none⟩ = some (.bool x.has) := fun W' h => h.wy.at rfl
  have kk0 : ∀ W', Q3S W' zw zk zv W.heap.size x k v o c.a c.b (.slice A1 c.vals.length c1) (.slice A2 c.kids.length c2) → W'.cell? ⟨zk, 0, none⟩ = some (.int .u8 k.1) := fun W' h => h.ck.c0
  have kk1 : ∀ W', Q3S W' zw zk zv W.heap.size x k v o c.a c.b (.slice A1 c.vals.length c1) (.slice A2 c.kids.length c2) → W'.cell? ⟨zk, 1, none⟩ = some (.int .i64 k.2.1) := fun W' h => h.ck.c1
  have kk2 : ∀ W', Q3S W' zw zk zv W.heap.size x k v o c.a c.b (.slice A1 c.vals.length c1) (.slice A2 c.kids.length c2) → W'.cell? ⟨zk, 2, none⟩ = some (.string k.2.2) := fun W' h => h.ck.c2
  have kv0 : ∀ W', Q3S W' zw zk zv W.heap.size x k v o c.a c.b (.slice A1 c.vals.length c1) (.slice A2 c.kids.length c2) → W'.cell? ⟨zv, 0, none⟩ = some (.int .u8 v.1) := fun W' h => h.cv.c0
  have kv1 : ∀ W', Q3S W' zw zk zv W.heap.size x k v o c.a c.b (.slice A1 c.vals.length c1) (.slice A2 c.kids.length c2) → W'.cell? ⟨zv, 1, none⟩ = some (.int .i64 v.2.1) := fun W' h => h.cv.c1
  have kv2 : ∀ W', Q3S W' zw zk zv W.heap.size x k v o c.a c.b (.slice A1 c.vals.length c1) (.slice A2 c.kids.length c2) → W'.cell? ⟨zv, 2, none⟩ = some (.string v.2.2) := fun W' h => h.cv.c2
  have kc0 : ∀ W', Q3S W' zw zk zv W.heap.size x k v o c.a c.b (.slice A1 c.vals.length c1) (.slice A2 c.kids.length c2) → W'.cell? ⟨W.heap.size, 0, none⟩ = some (.int .u32 o) := fun W' h => h.cc.c0
  have kc1 : ∀ W', Q3S W' zw zk zv W.heap.size x k v o c.a c.b (.slice A1 c.vals.length c1) (.slice A2 c.kids.length c2) → W'.cell? ⟨W.heap.size, 1, none⟩ = some (.int .u32 c.a) := fun W' h => h.cc.c1
  have kc2 : ∀ W', Q3S W' zw zk zv W.heap.size x k v o c.a c.b (.slice A1 c.vals.length c1) (.slice A2 c.kids.length c2) → W'.cell? ⟨W.heap.size, 2, none⟩ = some (.int .u32 c.b) := fun W' h => h.cc.c2
  have kc3 : ∀ W', Q3S W' zw zk zv W.heap.size x k v o c.a c.b (.slice A1 c.vals.length c1) (.slice A2 c.kids.length c2) → W'.cell? ⟨W.heap.size, 3, none⟩ = some (.slice A1 c.vals.length c1) := fun W' h => h.cc.c3
  have kc4 : ∀ W', Q3S W' zw zk zv W.heap.size x k v o c.a c.b (.slice A1 c.vals.length c1) (.slice A2 c.kids.length c2) → W'.cell? ⟨W.heap.size, 4, none⟩ = some (.slice A2 c.kids.length c2) := fun W' h => h.cc.c4
  have HW0 := Lib.hid hW0
  have HWD := Lib.hid hWD
  clear hW0 hWD hSD
  show Calls Tryz.prog 165 #[cagg o c.a c.b (.slice A1 c.vals.length c1) (.slice A2 c.kids.length c2), .pointer (some ⟨zw, 0, none⟩), .pointer (some ⟨zk, 0, none⟩), .pointer (some ⟨zv, 0, none⟩)] W _
  go_enter Tryz.func165, Tryz.ntmps165
  go_upto_region 1 with fail
  rw [← HW0.out]
  clear HW0
  refine wp_region_noPanic ?_
  refine wp_region_held_drew (S := fun W' => Q3S W' zw zk zv W.heap.size x k v o c.a c.b (.slice A1 c.vals.length c1) (.slice A2 c.kids.length c2)) (by kernel_rfl) (by rw [← HWD.out]; exact HSD.out) (fun hH => ?_)
  rw [← HWD.out] at hH ⊢
  clear HWD
  refine tkH ?_ 0 hH ?_ ?_; rotate_left
  · intro W' hS; go_simp; with_reducible rfl
  simp only [tkr]
  refine tkH ?_ 1 hH ?_ ?_; rotate_left
  · intro W' hS; go_simp; with_reducible rfl
  simp only [tkr]
  refine tkH ?_ 2 hH ?_ ?_; rotate_left
  · intro W' hS; go_simp; with_reducible rfl
  simp only [tkr]
  refine tkH ?_ 3 hH ?_ ?_; rotate_left
  · intro W' hS; go_simp; with_reducible rfl
  simp only [tkr]
  refine tkH ?_ 4 hH ?_ ?_; rotate_left
  · intro W' hS; go_simp; with_reducible rfl
  simp only [tkr]
  refine tkH ?_ 5 hH ?_ ?_; rotate_left
  · intro W' hS; go_simp; with_reducible rfl
  simp only [tkr]
  refine rdH 6 rfl (fun K hK => ?_)
  go_simp
  refine HNL.out.mono ?_
  rintro e W1 ⟨n, rfl, n1, n2, n3, hst⟩
  have hS1 := hH.kp hst.kp ⟨NFF.out.1, NFF.out.2.1, NFF.out.2.2.1, NFF.out.2.2.2.1⟩
  have ST := Lib.hid hst
  have NN := Lib.hid (And.intro n1 (And.intro n2 n3))
  have hO2 := hst.kp.own O2D.out (fun q hq => (NKO.out q hq).2.2)
  have hs1 : w.heap.size ≤ W1.heap.size := Nat.le_trans (by have := ZZ.out; have := HSZ.out; omega) hst.kp.size
  have HW := Lib.hid (HWK.out n W1 hO2 hs1)
  clear hst n1 n2 n3 hO2 hs1 hH
  simp only
  refine hK.out _ _ ?_ (fun hH => ?_)
  · exact hS1
  clear hK K hS1
  refine rdH 7 rfl (fun K hK => ?_)
  go_simp
  refine HW.out.mono ?_
  rintro e W2 ⟨A3, c3, rfl, io, ik, ib⟩
  have NKZ : ∀ z, z < w.heap.size ∨ W.heap.size ≤ z → ¬ (Value.slice A2 c.kids.length c2).ownBlock = some z := fun z hz e => by have := NKO.out z e; omega
  have hS2 := hH.kp ik ⟨NKZ _ (.inl ZZ.out.2.2.2.1), NKZ _ (.inl ZZ.out.2.2.2.2.1), NKZ _ (.inl ZZ.out.2.2.2.2.2.1), NKZ _ (.inr (Nat.le_refl _))⟩
  have q3 := ((Q2D.out.kp ST.out.kp NFF.out.2.2.2.2).kp ik (NKZ _ (.inr (Nat.le_succ _))))
  have IO := Lib.hid io
  have IK := Lib.hid ik
  have IB := Lib.hid ib
  have Q3 := Lib.hid q3
  clear io ik ib NKZ q3 hH
  simp only
  refine hK.out _ _ ?_ (fun hH => ?_)
  · exact hS2
  clear hK K hS2
  refine rdH 8 rfl (fun K hK => ?_)
  obtain ⟨z0, z1, z2, z3, z4, u0, u1, u2, u3, u4⟩ := Q3.out.all
  go_simp
  refine hK.out _ _ ?_ (fun hH => ?_)
  · refine hH.kp (G := fun q => q = W.heap.size + 1) ?_ ?_
    · repeat first
        | with_reducible exact Kp.refl _ _
        | with_reducible refine Kp.setCell ?_ (by simp) _
    · have := ZZ.out
      omega
  clear hK K
  refine wpAnyH_done (by kernel_rfl) ?_ _
  refine NoPanic.normal ?_
  go_wp2_with fail
  have fin : ∀ W9, Kp (fun q => q = W.heap.size + 1) W2 W9 → Rd W9 (.slice A1 c.vals.length c1) c.vals.length (c.vals.flatMap cells3) ∧ W9.ownsRow w.heap.size 3 1 (.slice A3 (c.kids.length + 1) c3) (c.kids.length + 1) (nums (ns (c.kids.insertIdx (cnt s (dg x.g lv)) n))) ∧ Rn w W9 x.b most (upd M1 n (some (⟨x.ow, 0, 13, [k, v], []⟩, 1))) F (Fn F1 WD W1) ∧ (∀ q, (Value.slice A1 c.vals.length c1).ownBlock = some q → ¬ Fn F1 WD W1 q) ∧ (∀ q, (Value.slice A3 (c.kids.length + 1) c3).ownBlock = some q → ¬ Fn F1 WD W1 q) := fun W9 h9 => by
    have hsz := HSZ.out
    have zz := ZZ.out
    have hs1 := ST.out.kp.size
    have nFn : ∀ q, q < W.heap.size + 2 → ¬ F1 q → ¬ Fn F1 WD W1 q := fun q hq hn hf => by
      rcases hf with hf | hf
      · exact hn hf
      · have h3 : WD.heap.size ≤ q := hf.1
        omega
    have nb : ∀ q, (Value.slice A2 c.kids.length c2).ownBlock = some q → ¬ Fn F1 WD W1 q := fun q hq => nFn q (by have := NKO.out q hq; omega) (NKO.out q hq).2.2
    have hRn2 := ((RN.out.stp ST.out).mine IK.out (fun g hg => ⟨(NKO.out g hg).1, nb g hg⟩)).mine h9 (fun g hg => by
      refine ⟨by omega, nFn g (by omega) ?_⟩
      rw [hg]; exact NFF.out.2.2.2.2)
    refine ⟨Rd.of_own (h9.own (IK.out.own (ST.out.kp.own O1D.out (fun q hq => (NVO.out q hq).2.2)) (fun q hq => NVK.out q hq)) (fun q hq h => by have := NVO.out q hq; omega)), h9.own IO.out (fun q hq h => ?_), hRn2, fun q hq => nFn q (by have := NVO.out q hq; omega) (NVO.out q hq).2.2, fun q hq hf => ?_⟩
    · rcases IB.out q hq with h1 | h1
      · have := NKO.out q h1; omega
      · omega
    · rcases IB.out q hq with h1 | h1
      · exact nb q h1 hf
      · rcases hf with hf | hf
        · have := DOM.out q hf; omega
        · have h3 : q < W1.heap.size := hf.2
          omega
  have fin2 : ∀ W9, Kp (fun q => q = W.heap.size + 1) W2 W9 → ∃ v' k' c' M2 F2, Ending.returned (cagg o (s ||| 2 ^ dg x.g lv : Nat) c.b (.slice A1 c.vals.length c1) (.slice A3 (c.kids.length + 1) c3)) = .returned (cagg o c'.a c'.b v' k') ∧ Rd W9 v' c'.vals.length (c'.vals.flatMap cells3) ∧ Rd W9 k' c'.kids.length (nums (ns c'.kids)) ∧ Rn w W9 x.b most M2 F F2 ∧ (∀ q, v'.ownBlock = some q → ¬ F2 q) ∧ (∀ q, k'.ownBlock = some q → ¬ F2 q) ∧
      (∃ n : Nat, 1 ≤ n ∧ n ≤ most ∧ M1 n = none ∧ M2 = upd M1 n (some (⟨x.ow, 0, 13, [k, v], []⟩, 1)) ∧ c' = { c with kids := c.kids.insertIdx (cnt s (dg x.g lv)) n, a := ((s ||| 2 ^ dg x.g lv : Nat) : Int) }) := fun W9 h9 => by
    obtain ⟨f1, f2, f3, f4, f5⟩ := fin W9 h9
    have hlen : (c.kids.insertIdx (cnt s (dg x.g lv)) n).length = c.kids.length + 1 := by
      have h1 := f2.1
      rw [nums_length] at h1
      unfold ns at h1
      rw [List.length_map] at h1
      omega
    refine ⟨.slice A1 c.vals.length c1, .slice A3 (c.kids.length + 1) c3, { c with kids := c.kids.insertIdx (cnt s (dg x.g lv)) n, a := ((s ||| 2 ^ dg x.g lv : Nat) : Int) }, _, _, rfl, f1, ?_, f3, f4, f5, n, NN.out.1, NN.out.2.1, NN.out.2.2, rfl, rfl⟩
    show Rd _ _ (c.kids.insertIdx (cnt s (dg x.g lv)) n).length _
    rw [hlen]
    exact Rd.of_own f2
  clear fin
  refine bodyPost_ret (v := cagg o (s ||| 2 ^ dg x.g lv : Nat) c.b (.slice A1 c.vals.length c1) (.slice A3 (c.kids.length + 1) c3)) (by simp [results, Tryz.results165, go_sem, z0, z1, z2, z3, z4]) rfl (fin2 _ ?_)
  repeat first
    | with_reducible exact Kp.refl _ _
    | with_reducible refine Kp.setCell ?_ (by simp) _
end

end Go.Proofs.YtdddhmipifkepaaGreat

namespace Go.Proofs.YtdddhmipifkepaaGreat
set_option maxRecDepth 100000
open Go.RowKit
section
variable {most : Nat} {M : Cells} {F : Nat → Prop}
set_option maxHeartbeats 800000 in
theorem vput1 (x : Wv) (zw zk zv i : Nat) (k v : Ky) (w : World) (h : Ar w x.b most M F) (hw : WC w zw x) (hk : C3 w zk 36 (.int .u8 k.1) (.int .i64 k.2.1) (.string k.2.2)) (hv : C3 w zv 36 (.int .u8 v.1) (.int .i64 v.2.1) (.string v.2.2)) (hroom : live (most + 1) M < most) :
    Calls Tryz.prog 158 (#[.int .i64 (i : Nat)] ++ #[.pointer (some ⟨zw, 0, none⟩), .pointer (some ⟨zk, 0, none⟩), .pointer (some ⟨zv, 0, none⟩)]) w fun e w' => ∃ n : Nat, e = .returned (.int .i64 n) ∧ 1 ≤ n ∧ n ≤ most ∧ M n = none ∧ Stp w w' x.b most (upd M n (some (⟨x.ow, 0, 13, [k, v], []⟩, 1))) F := by
  have HN := Lib.hid (vnewLeaf x k v most M F w h hroom)
  obtain ⟨m0, m1, m2, m3, m4, m5, m6, m7, m8, m9⟩ := hw.all
  obtain ⟨k0, k1, k2, _⟩ := hk.all
  obtain ⟨v0, v1, v2, _⟩ := hv.all
  clear h hw hk hv hroom
  show Calls Tryz.prog 158 #[.int .i64 (i : Nat), .pointer (some ⟨zw, 0, none⟩), .pointer (some ⟨zk, 0, none⟩), .pointer (some ⟨zv, 0, none⟩)] w _
  go_enter Tryz.func158, Tryz.ntmps158
  go_wp2_with fail
  refine HN.out.mono ?_
  rintro e w1 ⟨n, rfl, hr⟩
  have HR := Lib.hid hr
  clear hr
  go_wp2_with fail
  go_ret
  exact ⟨n, rfl, HR.out⟩
end

end Go.Proofs.YtdddhmipifkepaaGreat

namespace Go.Proofs.YtdddhmipifkepaaGreat
set_option maxRecDepth 100000
open Go.RowKit
theorem cnt_pow (a e : Nat) : cnt (2 ^ a) e = if a < e then 1 else 0 := by
  have h := cnt_set (s := 0) (s' := 2 ^ a) (d := a) (by simp) (by rw [Nat.testBit_two_pow]; simp) (fun e he => by rw [Nat.testBit_two_pow]; simp [Ne.symm he]) e
  rw [h, cnt_zero]
  simp
section
variable {most : Nat} {M : Cells} {F : Nat → Prop}
set_option maxHeartbeats 3000000 in
theorem vput4 (x : Wv) (zw zl zn zk zv i lev gn : Nat) (k v : Ky) (w : World) (h : Ar w x.b most M F) (hw : WC w zw x) (hl : C1 w zl 3 (.int .i64 (lev : Int))) (hn : C1 w zn 28 (.int .u64 (gn : Int)))
    (hk : C3 w zk 36 (.int .u8 k.1) (.int .i64 k.2.1) (.string k.2.2)) (hv : C3 w zv 36 (.int .u8 v.1) (.int .i64 v.2.1) (.string v.2.2)) (nF : ∀ z, z = zw ∨ z = zk ∨ z = zv → ¬ F z) (hlev : lev < 13) (hi : M i ≠ none) (hroom : live (most + 1) M + 2 ≤ most) :
    Calls Tryz.prog 167 (#[.int .i64 (i : Nat)] ++ #[.pointer (some ⟨zw, 0, none⟩), .pointer (some ⟨zl, 0, none⟩), .pointer (some ⟨zn, 0, none⟩), .pointer (some ⟨zk, 0, none⟩), .pointer (some ⟨zv, 0, none⟩)]) w fun e w' => ∃ n n2 : Nat, e = .returned (.int .i64 n2) ∧ 1 ≤ n ∧ n ≤ most ∧ M n = none ∧ 1 ≤ n2 ∧ n2 ≤ most ∧ M n2 = none ∧ n2 ≠ n ∧
      Stp w w' x.b most (upd (upd M n (some (⟨x.ow, 0, 13, [k, v], []⟩, 1))) n2 (some (⟨x.ow, ((2 ^ dg gn lev ||| 2 ^ dg x.g lev : Nat) : Int), (lev : Int), [], [i].insertIdx (cnt (2 ^ dg gn lev) (dg x.g lev)) n⟩, 1))) F := by
  obtain ⟨d0, hd0⟩ : ∃ d0, d0 = dg gn lev := ⟨_, rfl⟩
  obtain ⟨d, hd⟩ : ∃ d, d = dg x.g lev := ⟨_, rfl⟩
  have hd32 : d0 < 32 := hd0 ▸ dg_lt _ _
  have hc1 : cnt (2 ^ d0) d ≤ 1 := by rw [cnt_pow]; split <;> omega
  have HWK1 := vwithKid x.ow 0 lev gn i w.heap.size 0 0 none (.slice none 0 0) [] w (by decide) hlev (by decide) (by rw [cnt_zero]; exact Nat.le_refl _) (World.ownsRow_nil w _ _ _) (Nat.le_refl _)
  rw [← hd0, cnt_zero, Nat.zero_or] at HWK1
  replace HWK1 := Lib.hid HWK1
  have HWK2 := Lib.hid (fun (n : Nat) (A3 : Option Addr) (c3 : Nat) (W' : World) (hh : W'.ownsRow w.heap.size 3 1 (.slice A3 1 c3) 1 (nums (ns [i]))) (hs : w.heap.size ≤ W'.heap.size) => by
    have h1 := vwithKid x.ow (2 ^ d0) lev x.g n w.heap.size 0 0 none (.slice A3 1 c3) [i] W' (pow_32 hd32) hlev (by show 1 ≤ 64; decide) (by rw [← hd]; exact hc1) hh hs
    rw [← hd] at h1
    exact h1)
  have HNL := Lib.hid (fun (W' : World) (hs : Below w.heap.size w W') => vnewLeaf x k v most M F W' (h.below hs) (by omega))
  have HMK := Lib.hid (fun (n : Nat) (W' : World) (F1 : Nat → Prop) (A3 : Option Addr) (c3 : Nat) (hn : M n = none) (hn1 : 1 ≤ n ∧ n ≤ most) (ha : Ar W' x.b most (upd M n (some (⟨x.ow, 0, 13, [k, v], []⟩, 1))) F1) (hh : W'.ownsRow w.heap.size 3 1 (.slice A3 2 c3) 2 (nums (ns ([i].insertIdx (cnt (2 ^ d0) d) n)))) (fk : ∀ q, (Value.slice A3 2 c3).ownBlock = some q → ¬ F1 q) =>
    amake ⟨x.ow, ((2 ^ d0 ||| 2 ^ d : Nat) : Int), (lev : Int), [], [i].insertIdx (cnt (2 ^ d0) d) n⟩ (.slice none 0 0) (.slice A3 2 c3) x.b most _ F1 W' ha (Rd.nil _) (by
        have hl : ([i].insertIdx (cnt (2 ^ d0) d) n).length = 2 := List.length_insertIdx_of_le_length hc1 _
        show Rd W' _ ([i].insertIdx (cnt (2 ^ d0) d) n).length _
        rw [hl]; exact Rd.of_own hh) (by show 0 ≤ _; omega) (by
        have hl : ([i].insertIdx (cnt (2 ^ d0) d) n).length = 2 := List.length_insertIdx_of_le_length hc1 _
        show ([i].insertIdx (cnt (2 ^ d0) d) n).length ≤ _
        omega) (fun g hg => by simp [Value.ownBlock] at hg) fk (good_kids fun q hq _ => by
        rcases (List.mem_insertIdx (show cnt (2 ^ d0) d ≤ [i].length from hc1)).1 hq with e | e
        · subst e; rw [upd_same]; simp
        · rw [List.mem_singleton] at e
          subst e
          rw [upd_other _ _ (fun e : q = n => hi (by rw [e]; exact hn))]
          exact hi) (by
        have h1 := live_upd (M := M) (N := most + 1) n (some (⟨x.ow, 0, 13, [k, v], []⟩, 1)) (by omega)
        rw [hn] at h1
        simp only [one] at h1
        omega))
  have HA := Lib.hid h
  have HW := Lib.hid (And.intro hw (And.intro hk hv))
  have HNF := Lib.hid nF
  have HLT := Lib.hid (fun q (hq : F q) => h.lt hq)
  have kl := hl.c0
  have kn := hn.c0
  obtain ⟨m0, m1, m2, m3, m4, m5, m6, m7, m8, m9⟩ := hw.all
  have hwr : IntKind.u32.wrap (lev : Int) = (lev : Int) := by unfold IntKind.wrap; simp [go_sem]; omega
  rw [← hd0, ← hd]
  obtain ⟨e0, he0⟩ : ∃ e0, e0 = 2 ^ d0 := ⟨_, rfl⟩
  obtain ⟨e1, he1⟩ : ∃ e1, e1 = e0 ||| 2 ^ d := ⟨_, rfl⟩
  rw [← he0] at HWK1 HWK2 HMK ⊢
  rw [← he1] at HWK2 HMK ⊢
  clear he0 he1
  clear h hw hl hn hk hv nF hlev hi hroom hd0 hd hd32 hc1
  show Calls Tryz.prog 167 #[.int .i64 (i : Nat), .pointer (some ⟨zw, 0, none⟩), .pointer (some ⟨zl, 0, none⟩), .pointer (some ⟨zn, 0, none⟩), .pointer (some ⟨zk, 0, none⟩), .pointer (some ⟨zv, 0, none⟩)] w _
  go_enter Tryz.func167, Tryz.ntmps167
  go_wp2_with fail
  refine HWK1.out.mono ?_
  rintro e W1 ⟨A3, c3, rfl, io, ik, ib⟩
  have hb1 : Below w.heap.size w W1 := ik.below (fun q hq => by cases hq)
  have hA3 : ∀ q, (Value.slice A3 1 c3).ownBlock = some q → w.heap.size ≤ q := fun q hq => by
    rcases ib q hq with h | h
    · cases h
    · exact h
  have HA3 := Lib.hid hA3
  have IO := Lib.hid io
  have HB1 := Lib.hid hb1
  clear io ik ib hA3 HWK1 hb1
  go_upto_region 2 with fail
  obtain ⟨zc, hzc⟩ : ∃ zc, zc = W1.heap.size := ⟨_, rfl⟩
  have q5 := C5.new W1 109 (.int .u32 x.ow) (.int .u32 (e0 : Int)) (.int .u32 (lev : Int)) (.slice none 0 0) (.slice A3 1 c3)
  have hb2 : Below w.heap.size w (W1.alloc (.cells #[.int .u32 x.ow, .int .u32 (e0 : Int), .int .u32 (lev : Int), .slice none 0 0, .slice A3 1 c3] 109)) := HB1.out.alloc HB1.out.size _
  have io2 := (Kp.of_below ((Below.refl _ W1).alloc (Nat.le_refl _) (.cells #[.int .u32 x.ow, .int .u32 (e0 : Int), .int .u32 (lev : Int), .slice none 0 0, .slice A3 1 c3] 109)) (fun _ => False)).own IO.out (fun _ _ h => h)
  have hzl : w.heap.size ≤ zc := by rw [hzc]; exact HB1.out.size
  have hk3 : ∀ q, (Value.slice A3 1 c3).ownBlock = some q → q < zc := fun q hq => by rw [hzc]; exact (own_blk IO.out q hq).2
  rw [← hzc] at q5 ⊢
  generalize W1.alloc (.cells #[.int .u32 x.ow, .int .u32 (e0 : Int), .int .u32 (lev : Int), .slice none 0 0, .slice A3 1 c3] 109) = W2 at q5 hb2 io2 ⊢
  clear hzc IO HB1
  have hSD : Q3S W2.drew zw zk zv zc x k v x.ow (e0 : Nat) (lev : Nat) (.slice none 0 0) (.slice A3 1 c3) := ⟨HW.out.1.below hb2.drew, HW.out.2.1.below hb2.drew, HW.out.2.2.below hb2.drew, q5⟩
  obtain ⟨WD, hWD⟩ : ∃ WD, WD = W2.drew := ⟨_, rfl⟩
  rw [← hWD] at hSD
  have hbD : Below w.heap.size w WD := by rw [hWD]; exact hb2.drew
  have ioD : WD.ownsRow w.heap.size 3 1 (.slice A3 1 c3) 1 (nums (ns [i])) := by rw [hWD]; exact io2
  have hzD : zc < WD.heap.size := by rw [hWD]; exact q5.lt
  clear q5 hb2 io2 kl kn hwr m0 m1 m2 m3 m4 m5 m6 m7 m8 m9
  have HBD := Lib.hid hbD
  have HIO := Lib.hid ioD
  have HSD := Lib.hid hSD
  have HZ := Lib.hid (And.intro hzl hzD)
  have HK3 := Lib.hid hk3
  have HWD := Lib.hid hWD
  clear hbD ioD hSD hWD hzl hzD hk3
  have y0 : ∀ W', Q3S W' zw zk zv zc x k v x.ow (e0 : Nat) (lev : Nat) (.slice none 0 0) (.slice A3 1 c3) → W'.cell? ⟨zw, 0, none⟩ = some (ap x.b) := fun W' h => h.wy.at rfl
  have y1 : ∀ W', Q3S W' zw zk zv zc x k v x.ow (e0 : Nat) (lev : Nat) (.slice none 0 0) (.slice A3 1 c3) → W'.cell? ⟨zw, 1, none⟩ = some (.pointer (some ⟨x.bh, 0, none⟩)) := fun W' h => h.wy.at rfl
  have y2 : ∀ W', Q3S W' zw zk zv zc x k v x.ow (e0 : Nat) (lev : Nat) (.slice none 0 0) (.slice A3 1 c3) → W'.cell? ⟨zw, 2, none⟩ = some (.int .u32 x.ow) := fun W' h => h.wy.at rfl
  have y3 : ∀ W', Q3S W' zw zk zv zc x k v x.ow (e0 : Nat) (lev : Nat) (.slice none 0 0) (.slice A3 1 c3) → W'.cell? ⟨zw, 3, none⟩ = some (.int .u64 x.g) := fun W' h => h.wy.at rfl
  have y4 : ∀ W', Q3S W' zw zk zv zc x k v x.ow (e0 : Nat) (lev : Nat) (.slice none 0 0) (.slice A3 1 c3) → W'.cell? ⟨zw, 4, none⟩ = some (.int .i64 x.root) := fun W' h => h.wy.at rfl
  have y5 : ∀ W', Q3S W' zw zk zv zc x k v x.ow (e0 : Nat) (lev : Nat) (.slice none 0 0) (.slice A3 1 c3) → W'.cell? ⟨zw, 5, none⟩ = some (.slice x.A4 x.n4 x.c4) := fun W' h => h.wy.at rfl
  have y6 : ∀ W', Q3S W' zw zk zv zc x k v x.ow (e0 : Nat) (lev : Nat) (.slice none 0 0) (.slice A3 1 c3) → W'.cell? ⟨zw, 6, none⟩ = some (.slice x.A5 x.n5 x.c5) := fun W' h => h.wy.at rfl
  have y7 : ∀ W', Q3S W' zw zk zv zc x k v x.ow (e0 : Nat) (lev : Nat) (.slice none 0 0) (.slice A3 1 c3) → W'.cell? ⟨zw, 7, none⟩ = some (.slice x.A6 x.n6 x.c6) := fun W' h => h.wy.at rfl
  have y8 : ∀ W', Q3S W' zw zk zv zc x k v x.ow (e0 : Nat) (lev : Nat) (.slice none 0 0) (.slice A3 1 c3) → W'.cell? ⟨zw, 8, none⟩ = some (.int .i64 x.at') := fun W' h => h.wy.at rfl
  have y9 : ∀ W', Q3S W' zw zk zv zc x k v x.ow (e0 : Nat) (lev : Nat) (.slice none 0 0) (.slice A3 1 c3) → W'.cell? ⟨zw, 9, none⟩ = some (.bool x.has) := fun W' h => h.wy.at rfl
  have kk0 : ∀ W', Q3S W' zw zk zv zc x k v x.ow (e0 : Nat) (lev : Nat) (.slice none 0 0) (.slice A3 1 c3) → W'.cell? ⟨zk, 0, none⟩ = some (.int .u8 k.1) := fun W' h => h.ck.c0
  have kk1 : ∀ W', Q3S W' zw zk zv zc x k v x.ow (e0 : Nat) (lev : Nat) (.slice none 0 0) (.slice A3 1 c3) → W'.cell? ⟨zk, 1, none⟩ = some (.int .i64 k.2.1) := fun W' h => h.ck.c1
  have kk2 : ∀ W', Q3S W' zw zk zv zc x k v x.ow (e0 : Nat) (lev : Nat) (.slice none 0 0) (.slice A3 1 c3) → W'.cell? ⟨zk, 2, none⟩ = some (.string k.2.2) := fun W' h => h.ck.c2
  have kv0 : ∀ W', Q3S W' zw zk zv zc x k v x.ow (e0 : Nat) (lev : Nat) (.slice none 0 0) (.slice A3 1 c3) → W'.cell? ⟨zv, 0, none⟩ = some (.int .u8 v.1) := fun W' h => h.cv.c0
  have kv1 : ∀ W', Q3S W' zw zk zv zc x k v x.ow (e0 : Nat) (lev : Nat) (.slice none 0 0) (.slice A3 1 c3) → W'.cell? ⟨zv, 1, none⟩ = some (.int .i64 v.2.1) := fun W' h => h.cv.c1
  have kv2 : ∀ W', Q3S W' zw zk zv zc x k v x.ow (e0 : Nat) (lev : Nat) (.slice none 0 0) (.slice A3 1 c3) → W'.cell? ⟨zv, 2, none⟩ = some (.string v.2.2) := fun W' h => h.cv.c2
  have kc0 : ∀ W', Q3S W' zw zk zv zc x k v x.ow (e0 : Nat) (lev : Nat) (.slice none 0 0) (.slice A3 1 c3) → W'.cell? ⟨zc, 0, none⟩ = some (.int .u32 x.ow) := fun W' h => h.cc.c0
  have kc1 : ∀ W', Q3S W' zw zk zv zc x k v x.ow (e0 : Nat) (lev : Nat) (.slice none 0 0) (.slice A3 1 c3) → W'.cell? ⟨zc, 1, none⟩ = some (.int .u32 (e0 : Int)) := fun W' h => h.cc.c1
  have kc2 : ∀ W', Q3S W' zw zk zv zc x k v x.ow (e0 : Nat) (lev : Nat) (.slice none 0 0) (.slice A3 1 c3) → W'.cell? ⟨zc, 2, none⟩ = some (.int .u32 (lev : Int)) := fun W' h => h.cc.c2
  have kc3 : ∀ W', Q3S W' zw zk zv zc x k v x.ow (e0 : Nat) (lev : Nat) (.slice none 0 0) (.slice A3 1 c3) → W'.cell? ⟨zc, 3, none⟩ = some (.slice none 0 0) := fun W' h => h.cc.c3
  have kc4 : ∀ W', Q3S W' zw zk zv zc x k v x.ow (e0 : Nat) (lev : Nat) (.slice none 0 0) (.slice A3 1 c3) → W'.cell? ⟨zc, 4, none⟩ = some (.slice A3 1 c3) := fun W' h => h.cc.c4
  refine wp_region_noPanic ?_
  refine wp_region_held_drew (S := fun W' => Q3S W' zw zk zv zc x k v x.ow (e0 : Nat) (lev : Nat) (.slice none 0 0) (.slice A3 1 c3)) (by kernel_rfl) (by rw [← HWD.out]; exact HSD.out) (fun hH => ?_)
  rw [← HWD.out] at hH ⊢
  clear HWD
  refine tkH ?_ 0 hH ?_ ?_; rotate_left
  · intro W' hS; go_simp; with_reducible rfl
  simp only [tkr]
  refine tkH ?_ 1 hH ?_ ?_; rotate_left
  · intro W' hS; go_simp; with_reducible rfl
  simp only [tkr]
  refine tkH ?_ 2 hH ?_ ?_; rotate_left
  · intro W' hS; go_simp; with_reducible rfl
  simp only [tkr]
  refine tkH ?_ 3 hH ?_ ?_; rotate_left
  · intro W' hS; go_simp; with_reducible rfl
  simp only [tkr]
  refine tkH ?_ 4 hH ?_ ?_; rotate_left
  · intro W' hS; go_simp; with_reducible rfl
  simp only [tkr]
  refine tkH ?_ 5 hH ?_ ?_; rotate_left
  · intro W' hS; go_simp; with_reducible rfl
  simp only [tkr]
  refine tkH ?_ 6 hH ?_ ?_; rotate_left
  · intro W' hS; go_simp; with_reducible rfl
  simp only [tkr]
  refine tkH ?_ 7 hH ?_ ?_; rotate_left
  · intro W' hS; go_simp; with_reducible rfl
  simp only [tkr]
  refine tkH ?_ 8 hH ?_ ?_; rotate_left
  · intro W' hS; go_simp; with_reducible rfl
  simp only [tkr]
  refine rdH 9 rfl (fun K hK => ?_)
  go_simp
  refine (HNL.out WD HBD.out).mono ?_
  rintro e W3 ⟨n, rfl, n1, n2, n3, hst⟩
  have nz : ∀ z, w.heap.size ≤ z → ¬ F z := fun z hz hf => by have := HLT.out z hf; omega
  have hS1 := hH.kp hst.kp ⟨HNF.out _ (.inl rfl), HNF.out _ (.inr (.inl rfl)), HNF.out _ (.inr (.inr rfl)), nz _ HZ.out.1⟩
  have ST := Lib.hid hst
  have NN := Lib.hid (And.intro n1 (And.intro n2 n3))
  have hO2 := hst.kp.own HIO.out (fun q hq => nz q (HA3.out q hq))
  have hs1 : w.heap.size ≤ W3.heap.size := Nat.le_trans HBD.out.size hst.kp.size
  have HWK := Lib.hid (HWK2.out n A3 c3 W3 hO2 hs1)
  clear hst n1 n2 n3 hO2 hs1 hH
  simp only
  refine hK.out _ _ ?_ (fun hH => ?_)
  · exact hS1
  clear hK K hS1
  refine rdH 10 rfl (fun K hK => ?_)
  go_simp
  refine HWK.out.mono ?_
  rintro e W4 ⟨A4, c4, rfl, io, ik, ib⟩
  have hw0 := HW.out.1.lt
  have hw1 := HW.out.2.1.lt
  have hw2 := HW.out.2.2.lt
  have NKZ : ∀ z, z < w.heap.size ∨ zc ≤ z → ¬ (Value.slice A3 1 c3).ownBlock = some z := fun z hz e => by have h1 := HA3.out z e; have h2 := HK3.out z e; omega
  have hS2 := hH.kp ik ⟨NKZ _ (.inl hw0), NKZ _ (.inl hw1), NKZ _ (.inl hw2), NKZ _ (.inr (Nat.le_refl _))⟩
  have nFn : ∀ q, w.heap.size ≤ q → q < WD.heap.size → ¬ Fn F WD W3 q := fun q h1 h2 hf => by
    rcases hf with hf | hf
    · exact nz q h1 hf
    · have h3 : WD.heap.size ≤ q := hf.1
      omega
  have har : Ar W4 x.b most (upd M n (some (⟨x.ow, 0, 13, [k, v], []⟩, 1))) (Fn F WD W3) := ST.out.ar.kp ik (fun q hq e => nFn q (HA3.out q e) (by have := HK3.out q e; have := HZ.out; omega) hq)
  have f4 : ∀ q, (Value.slice A4 2 c4).ownBlock = some q → ¬ Fn F WD W3 q := fun q hq hf => by
    rcases ib q hq with h | h
    · exact nFn q (HA3.out q h) (by have := HK3.out q h; have := HZ.out; omega) hf
    · rcases hf with hf | hf
      · have := HLT.out q hf
        have := HBD.out.size
        have := ST.out.kp.size
        omega
      · have h3 : q < W3.heap.size := hf.2
        omega
  have HM := Lib.hid (HMK.out n W4 (Fn F WD W3) A4 c4 NN.out.2.2 ⟨NN.out.1, NN.out.2.1⟩ har io f4)
  have HS4 := Lib.hid hS2
  have HKK := Lib.hid (show Kp F w W4 from ((Kp.of_below HBD.out F).trans ST.out.kp (fun _ h => .inl h)).trans ik (fun q e => .inr (HA3.out q e)))
  have DOM := Lib.hid (show ∀ q, Fn F WD W3 q → F q ∨ w.heap.size ≤ q from fun q hq => by
    rcases hq with hq | hq
    · exact .inl hq
    · exact .inr (Nat.le_trans HBD.out.size hq.1))
  have DOM2 := Lib.hid (show ∀ q, w.heap.size ≤ q → Fn F WD W3 q → WD.heap.size ≤ q from fun q h1 hq => by
    rcases hq with hq | hq
    · exact absurd hq (nz q h1)
    · exact hq.1)
  have NZ := Lib.hid nz
  clear io ik ib NKZ hS2 nFn har f4 nz hw0 hw1 hw2 hH
  simp only
  refine hK.out _ _ ?_ (fun hH => ?_)
  · exact HS4.out
  clear hK K
  refine rdH 11 rfl (fun K hK => ?_)
  go_simp
  refine HM.out.mono ?_
  rintro e W5 ⟨n4, rfl, p1, p2, p3, p4, p5⟩
  have nq : ∀ z, z < w.heap.size → ¬ F z → ¬ Fn F WD W3 z := fun z hz hn hf => by
    rcases hf with hf | hf
    · exact hn hf
    · have h3 : WD.heap.size ≤ z := hf.1
      have h4 := HBD.out.size
      omega
  have hS5 := HS4.out.kp p5 ⟨nq _ HW.out.1.lt (HNF.out _ (.inl rfl)), nq _ HW.out.2.1.lt (HNF.out _ (.inr (.inl rfl))), nq _ HW.out.2.2.lt (HNF.out _ (.inr (.inr rfl))), fun hf => by
    have h1 := DOM2.out zc HZ.out.1 hf
    have h2 := HZ.out.2
    omega⟩
  have hfin : Stp w W5 x.b most (upd (upd M n (some (⟨x.ow, 0, 13, [k, v], []⟩, 1))) n4 (some (⟨x.ow, (e1 : Int), (lev : Int), [], [i].insertIdx (cnt e0 d) n⟩, 1))) F :=
    Rn.fin (F' := Fn (Fn F WD W3) W4 W5) ⟨p4, HKK.out.trans p5 DOM.out, fun q hq => by
      rcases hq with hq | hq
      · exact DOM.out q hq
      · exact .inr (Nat.le_trans HKK.out.size hq.1)⟩ HLT.out
  have hne : n4 ≠ n := fun e => by rw [e, upd_same] at p3; cases p3
  have HP := Lib.hid (show M n4 = none from by rwa [upd_other _ _ hne] at p3)
  have HP12 := Lib.hid (And.intro p1 (And.intro p2 hne))
  have HFIN := Lib.hid hfin
  have HS5 := Lib.hid hS5
  clear hS5 hfin hne p1 p2 p3 p4 p5 nq hH
  simp only
  refine hK.out _ _ ?_ (fun hH => ?_)
  · exact HS5.out
  clear hK K
  refine tkH ?_ 12 hH ?_ ?_; rotate_left
  · intro W' hS; go_simp; with_reducible rfl
  simp only [tkr]
  refine tkH ?_ 13 hH ?_ ?_; rotate_left
  · intro W' hS; go_simp; with_reducible rfl
  simp only [tkr]
  refine tkH ?_ 14 hH ?_ ?_; rotate_left
  · intro W' hS; go_simp; with_reducible rfl
  simp only [tkr]
  refine tkH ?_ 15 hH ?_ ?_; rotate_left
  · intro W' hS; go_simp; with_reducible rfl
  simp only [tkr]
  refine tkH ?_ 16 hH ?_ ?_; rotate_left
  · intro W' hS; go_simp; with_reducible rfl
  simp only [tkr]
  refine wpAnyH_done (by kernel_rfl) ?_ _
  refine NoPanic.normal ?_
  clear y0 y1 y2 y3 y4 y5 y6 y7 y8 y9 kk0 kk1 kk2 kv0 kv1 kv2 kc0 kc1 kc2 kc3 kc4
  go_wp2_with fail
  go_ret
  exact ⟨n, n4, rfl, NN.out.1, NN.out.2.1, NN.out.2.2, HP12.out.1, HP12.out.2.1, HP.out, HP12.out.2.2, HFIN.out⟩
end

end Go.Proofs.YtdddhmipifkepaaGreat

namespace Go.Proofs.YtdddhmipifkepaaGreat
set_option maxRecDepth 100000
open Go.RowKit
def ChgP (f : FuncId) (pre : Value) (b most : Nat) (F : Nat → Prop) (w : World) (M1 : Cells) (c : Hc) (R : Hc → Cells → Prop) : Prop :=
  ∀ (o : Int) (v k : Value) (W : World) (F1 : Nat → Prop), Rn w W b most M1 F F1 → (∀ q, v.ownBlock = some q → ¬ F1 q) → (∀ q, k.ownBlock = some q → ¬ F1 q) → W.ownsRow w.heap.size 36 3 v c.vals.length (c.vals.flatMap cells3) → W.ownsRow w.heap.size 3 1 k c.kids.length (nums (ns c.kids)) →
    Calls Tryz.prog f #[pre, cagg o c.a c.b v k] W fun e W' => ∃ v' k' c' M2 F2, e = .returned (cagg o c'.a c'.b v' k') ∧ Rd W' v' c'.vals.length (c'.vals.flatMap cells3) ∧ Rd W' k' c'.kids.length (nums (ns c'.kids)) ∧ Rn w W' b most M2 F F2 ∧ (∀ q, v'.ownBlock = some q → ¬ F2 q) ∧ (∀ q, k'.ownBlock = some q → ¬ F2 q) ∧ R c' M2
section
variable {b most : Nat} {M : Cells} {F : Nat → Prop}
end

section
variable {b most : Nat} {M : Cells} {F : Nat → Prop}
end

section
variable {b most : Nat} {M : Cells} {F : Nat → Prop} {H : List Nat} {P : Nat → Nat}
end


end Go.Proofs.YtdddhmipifkepaaGreat

namespace Go.Proofs.YtdddhmipifkepaaGreat
open Go.RowKit

end Go.Proofs.YtdddhmipifkepaaGreat

namespace Go.Proofs.YtdddhmipifkepaaGreat
set_option maxRecDepth 100000
open Go.RowKit
structure Q4S (W : World) (zw zc g m n cp : Nat) (x : Wv) (o ca cb : Int) (V : Value) (kid : Nat) : Prop where
  wy : WC W zw x
  cc : C5 W zc 109 (.int .u32 o) (.int .u32 ca) (.int .u32 cb) V (.slice (some ⟨g, 0, none⟩) n cp)
  kid : W.cell? ⟨g, m, none⟩ = some (.int .i64 (kid : Int))
structure Q5S (W : World) (zw zc : Nat) (x : Wv) (cb : Int) : Prop where
  wy : WC W zw x
  cc : ∃ o a V K, C5 W zc 109 o a (.int .u32 cb) V K
theorem Q5S.kp {W W' : World} {zw zc : Nat} {x : Wv} {cb : Int} {G : Nat → Prop} (h : Q5S W zw zc x cb) (hk : Kp G W W') (hn : ¬ G zw ∧ ¬ G zc) : Q5S W' zw zc x cb := by
  obtain ⟨o, a, V, K, hc⟩ := h.cc
  exact ⟨h.wy.kp hk hn.1, o, a, V, K, hc.kp hk hn.2⟩
theorem Q5S.set {W : World} {zw zc : Nat} {x : Wv} {cb : Int} (h : Q5S W zw zc x cb) (hne : zw ≠ zc) (u : Value) : Q5S (W.setCell ⟨zc, 1, none⟩ u) zw zc x cb := by
  obtain ⟨o, a, V, K, hc⟩ := h.cc
  exact ⟨(Below.heap_setCell W ⟨zc, 1, none⟩ u zw hne).trans h.wy, o, u, V, K, hc.set1 u⟩
section
variable {most : Nat} {M1 : Cells} {F : Nat → Prop}
end

end Go.Proofs.YtdddhmipifkepaaGreat

namespace Go.Proofs.YtdddhmipifkepaaGreat
set_option maxRecDepth 100000
open Go.RowKit
section
variable {b most : Nat} {M : Cells} {F : Nat → Prop}
set_option maxHeartbeats 1600000 in
theorem vbelow_no (bh i : Nat) (lv : Int) (w : World) (h : Ar w b most M F) (hM : M i = none) :
    Calls Tryz.prog 154 #[land b bh, .int .i64 (i : Nat), .int .i64 lv] w fun e w' => e = .returned (.tuple #[cagg 0 0 0 (.slice none 0 0) (.slice none 0 0), .bool false]) ∧ Below w.heap.size w w' := by
  have hb1 : Below w.heap.size w ((w.alloc (.cells #[ap b, .pointer (some ⟨bh, 0, none⟩)] 26)).alloc (.cells #[.int .u32 0, .int .u32 0, .int .u32 0, .slice none 0 0, .slice none 0 0] 109)) := ((Below.refl w.heap.size w).alloc (Nat.le_refl _) _).alloc (by simp) _
  have e1 : (w.alloc (.cells #[ap b, .pointer (some ⟨bh, 0, none⟩)] 26)).heap.size = w.heap.size + 1 := by simp
  have q1 := (C2.new w 26 (ap b) (.pointer (some ⟨bh, 0, none⟩))).alloc (.cells #[.int .u32 0, .int .u32 0, .int .u32 0, .slice none 0 0, .slice none 0 0] 109)
  have q2 := C5.new (w.alloc (.cells #[ap b, .pointer (some ⟨bh, 0, none⟩)] 26)) 109 (.int .u32 0) (.int .u32 0) (.int .u32 0) (.slice none 0 0) (.slice none 0 0)
  rw [e1] at q2
  have HA := Lib.hid (h.below hb1)
  have HB := Lib.hid hb1
  have HC := Lib.hid (show contC M i = ⟨0, 0, 0, [], []⟩ by unfold contC; rw [hM])
  have HSm := Lib.hid (show (M i).isSome = false by rw [hM]; rfl)
  clear h hb1 e1 hM
  go_enter Tryz.func154, Tryz.ntmps154
  go_upto_region 1 with fail
  generalize (w.alloc (.cells #[ap b, .pointer (some ⟨bh, 0, none⟩)] 26)).alloc (.cells #[.int .u32 0, .int .u32 0, .int .u32 0, .slice none 0 0, .slice none 0 0] 109) = w1 at q1 q2 HA HB ⊢
  obtain ⟨z, hz⟩ : ∃ z, z = w.heap.size := ⟨_, rfl⟩
  rw [← hz] at q1 q2 ⊢
  have HZ := Lib.hid hz
  have HQ2 := Lib.hid q2
  obtain ⟨k0, k1, _⟩ := q1.all
  clear q1 q2 hz
  go_wp2_with fail
  refine (vget i w1 HA.out).mono ?_
  rintro e w2 ⟨v, k, rfl, hv, hk, hb2⟩
  rw [HC.out] at hv hk
  rw [HC.out, HSm.out]
  obtain ⟨A1, c1, rfl, _⟩ := (Rd.of_own hv).form
  obtain ⟨A2, c2, rfl, _⟩ := (Rd.of_own hk).form
  have HB2 := Lib.hid hb2
  have q3 := HQ2.out.below hb2
  have hzl := q3.lt
  clear hv hk hb2 k0 k1
  go_upto_region 2 with fail
  obtain ⟨w3, hw3⟩ : ∃ w3, w3 = w2.alloc (.cells #[.int .u32 0, .int .u32 0, .int .u32 0, .slice A1 0 c1, .slice A2 0 c2] 109) := ⟨_, rfl⟩
  have hb3 : Below w2.heap.size w2 w3 := by rw [hw3]; exact (Below.refl _ w2).alloc (Nat.le_refl _) _
  have hw3' : w2.alloc (.cells #[.int .u32 0, .int .u32 0, .int .u32 0, .slice A1 ([] : List V3).length c1, .slice A2 ([] : List Nat).length c2] 109) = w3 := by rw [hw3]; rfl
  have HB3 := Lib.hid hb3
  obtain ⟨r0, r1, r2, r3, r4, f0, f1, f2, f3, f4⟩ := (q3.below hb3).all
  have HW3 := Lib.hid hw3'
  clear q3 hzl hw3 hb3 hw3'
  first
    | rw [HW3.out]
    | (change Code.wp _ _ _ _ (w2.alloc (.cells #[.int .u32 0, .int .u32 0, .int .u32 0, .slice A1 ([] : List V3).length c1, .slice A2 ([] : List Nat).length c2] 109)); rw [HW3.out])
  go_wp2_with fail
  have fin : ∀ W9, Kp (fun q => q = z + 1) w3 W9 → Below w.heap.size w W9 := fun W9 h9 => by
    refine (((Kp.of_below HB.out (fun _ => False)).trans (Kp.of_below HB2.out (fun _ => False)) (fun _ h => h.elim)).trans ((Kp.of_below HB3.out (fun q => q = z + 1)).trans h9 (fun q h => .inl h)) (fun q e => .inr ?_)).below (fun _ h => h.elim)
    have := HZ.out
    omega
  refine bodyPost_ret (v := .tuple #[cagg 0 0 0 (.slice none 0 0) (.slice none 0 0), .bool false]) (by simp [results, Tryz.results154, go_sem, r0, r1, r2, r3, r4]) rfl ⟨rfl, fin _ ?_⟩
  repeat first
    | with_reducible exact Kp.refl _ _
    | with_reducible refine Kp.setCell ?_ (by simp) _
end

end Go.Proofs.YtdddhmipifkepaaGreat

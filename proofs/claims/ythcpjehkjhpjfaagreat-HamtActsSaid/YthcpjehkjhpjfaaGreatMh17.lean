/- Several texts in one. -/
import Derived.Test.YthcpjehkjhpjfaaGreatMh16
import Derived.Test.YthcpjehkjhpjfaaGreatMh11
import Derived.Test.YthcpjehkjhpjfaaGreatMh03
set_option linter.unusedSimpArgs false
namespace Go.Proofs.YthcpjehkjhpjfaaGreat
set_option maxRecDepth 100000
open Go.RowKit
structure Q4S (W : World) (zw zc g m n cp : Nat) (x : Wv) (o ca cb : Int) (V : Value) (kid : Nat) : Prop where
  wy : WC W zw x
  cc : C5 W zc 136 (.int .u32 o) (.int .u32 ca) (.int .u32 cb) V (.slice (some ⟨g, 0, none⟩) n cp)
  kid : W.cell? ⟨g, m, none⟩ = some (.int .i64 (kid : Int))
structure Q5S (W : World) (zw zc : Nat) (x : Wv) (cb : Int) : Prop where
  wy : WC W zw x
  cc : ∃ o a V K, C5 W zc 136 o a (.int .u32 cb) V K
theorem Q5S.kp {W W' : World} {zw zc : Nat} {x : Wv} {cb : Int} {G : Nat → Prop} (h : Q5S W zw zc x cb) (hk : Kp G W W') (hn : ¬ G zw ∧ ¬ G zc) : Q5S W' zw zc x cb := by
  obtain ⟨o, a, V, K, hc⟩ := h.cc
  exact ⟨h.wy.kp hk hn.1, o, a, V, K, hc.kp hk hn.2⟩
theorem Q5S.set {W : World} {zw zc : Nat} {x : Wv} {cb : Int} (h : Q5S W zw zc x cb) (hne : zw ≠ zc) (u : Value) : Q5S (W.setCell ⟨zc, 1, none⟩ u) zw zc x cb := by
  obtain ⟨o, a, V, K, hc⟩ := h.cc
  exact ⟨(Below.heap_setCell W ⟨zc, 1, none⟩ u zw hne).trans h.wy, o, u, V, K, hc.set1 u⟩
theorem nums_erase (l : List Nat) (m : Nat) : (nums (ns l)).take m ++ (nums (ns l)).drop (m + 1) = nums (ns (l.eraseIdx m)) := by
  rw [List.eraseIdx_eq_take_drop_succ]
  unfold nums ns
  simp only [List.map_append, List.map_take, List.map_drop]
theorem vwithout1 (s d b : Nat) (hs : s < 4294967296) (hd : d < 32) (w : World) (h : w.cell? ⟨b, 0, none⟩ = some (.int .i64 (d : Int))) :
    Calls Tryz.prog 201 #[.int .u32 (s : Nat), .slice (some ⟨b, 0, none⟩) 1 1] w fun e w' => e = .returned (.int .u32 (s &&& (4294967295 - 2 ^ d) : Nat)) ∧ w = w' := by
  have h1 := without_run s hs (some ⟨b, 0, none⟩) [(d : Int)] 1 w (.inr ⟨b, 0, rfl, World.block_lt_of_cell? w _ h, fun i x hx => by
    cases i with
    | zero => simp at hx; subst hx; exact h
    | succ i => simp at hx⟩) (by show 1 ≤ _; decide)
  have e : ofN [(d : Int)] = 2 ^ d := by
    unfold ofN
    rw [if_pos (by omega), Int.toNat_natCast]
    simp [ofN]
  rw [e] at h1
  exact h1
section
variable {most : Nat} {M1 : Cells} {F : Nat → Prop}
set_option maxHeartbeats 3000000 in
theorem chgP_without (x : Wv) (s lv kid : Nat) (w : World) (c : Hc) (hs : c.a = (s : Int)) (hs2 : s < 4294967296) (hlv : c.b = (lv : Int)) (hlv2 : lv < 13) (hk : c.kids[sdx s x.g lv]? = some kid) (hr : ∀ j, rf (M1 j) ≤ 4611686018427387904) :
    ChgP 152 (wagg x) x.b most F w M1 c
      (fun c' M2 => Drops M1 [kid] M2 ∧ c' = { c with kids := c.kids.eraseIdx (sdx s x.g lv), a := ((s &&& (4294967295 - 2 ^ dg x.g lv) : Nat) : Int) }) := by
  intro o V K W F1 hRn nv nk o1 o2
  obtain ⟨m, hm⟩ : ∃ m, m = sdx s x.g lv := ⟨_, rfl⟩
  obtain ⟨d, hd⟩ : ∃ d, d = dg x.g lv := ⟨_, rfl⟩
  have hd32 : d < 32 := hd ▸ dg_lt _ _
  obtain ⟨s', hs'⟩ : ∃ s', s' = s &&& (4294967295 - 2 ^ d) := ⟨_, rfl⟩
  rw [← hd, ← hs']
  rw [← hm] at hk ⊢
  have hlk : m < c.kids.length := (List.getElem?_eq_some_iff.1 hk).1
  obtain ⟨gk, m2, rfl, hm2, hcell, hfz⟩ := own_at o2 (j := m) (u := .int .i64 (kid : Int)) (nsn_at hk)
  obtain ⟨A1, c1, rfl, _⟩ := (Rd.of_own o1).form
  obtain ⟨W0, hW0⟩ : ∃ W0, W0 = ((W.alloc (.cells (wcells x) 162)).alloc (.cells #[.int .u32 o, .int .u32 c.a, .int .u32 c.b, .slice A1 c.vals.length c1, .slice (some ⟨gk, 0, none⟩) c.kids.length m2] 136)).alloc (.cells #[.int .u32 0, .int .u32 0, .int .u32 0, .slice none 0 0, .slice none 0 0] 136) := ⟨_, rfl⟩
  have hsz : W0.heap.size = W.heap.size + 1 + 1 + 1 := by rw [hW0]; simp
  have hb0 : Below W.heap.size W W0 := by rw [hW0]; exact (((Below.refl _ W).alloc (Nat.le_refl _) _).alloc (by simp) _).alloc (by simp; omega) _
  have q0 : WC W0 W.heap.size x := by rw [hW0]; exact ((WC.new W x).alloc _).alloc _
  have q1 : C5 W0 (W.heap.size + 1) 136 (.int .u32 o) (.int .u32 c.a) (.int .u32 c.b) (.slice A1 c.vals.length c1) (.slice (some ⟨gk, 0, none⟩) c.kids.length m2) := by
    have h := (C5.new (W.alloc (.cells (wcells x) 162)) 136 (.int .u32 o) (.int .u32 c.a) (.int .u32 c.b) (.slice A1 c.vals.length c1) (.slice (some ⟨gk, 0, none⟩) c.kids.length m2)).alloc (.cells #[.int .u32 0, .int .u32 0, .int .u32 0, .slice none 0 0, .slice none 0 0] 136)
    rw [hW0]
    simpa using h
  have q2 : C5 W0 (W.heap.size + 1 + 1) 136 (.int .u32 0) (.int .u32 0) (.int .u32 0) (.slice none 0 0) (.slice none 0 0) := by
    have h := C5.new ((W.alloc (.cells (wcells x) 162)).alloc (.cells #[.int .u32 o, .int .u32 c.a, .int .u32 c.b, .slice A1 c.vals.length c1, .slice (some ⟨gk, 0, none⟩) c.kids.length m2] 136)) 136 (.int .u32 0) (.int .u32 0) (.int .u32 0) (.slice none 0 0) (.slice none 0 0)
    rw [hW0]
    simpa using h
  have RN0 : Rn w W0 x.b most M1 F F1 := hRn.mine (Kp.of_below hb0 (fun _ => False)) (fun _ h => h.elim)
  have HSD := vside o s lv x.g A1 (some ⟨gk, 0, none⟩) c.vals.length c1 c.kids.length m2 W0 hs2 hlv2
  rw [← hs, ← hlv, ← hm] at HSD
  replace HSD := Lib.hid HSD
  have HDG := Lib.hid (dg_run x.g lv hlv2)
  rw [← hd] at HDG
  have HWO := Lib.hid (fun (W' : World) (b : Nat) (h : W'.cell? ⟨b, 0, none⟩ = some (.int .i64 (d : Int))) => vwithout1 s d b hs2 hd32 W' h)
  rw [← hs'] at HWO
  have hkb := own_blk o2 gk rfl
  have hvb := own_blk o1
  have NVO := Lib.hid (show ∀ q, (Value.slice A1 c.vals.length c1).ownBlock = some q → w.heap.size ≤ q ∧ q < W.heap.size ∧ ¬ F1 q ∧ q ≠ gk from fun q hq => ⟨(hvb q hq).1, (hvb q hq).2, nv q hq, fun e => by
    obtain ⟨cur, hcur⟩ := own_type o1 q hq
    exact own_ne o2 hcur (by decide) gk rfl e.symm⟩)
  have NKO := Lib.hid (show w.heap.size ≤ gk ∧ gk < W.heap.size ∧ ¬ F1 gk from ⟨hkb.1, hkb.2, nk gk rfl⟩)
  have NEW := Lib.hid (show ∀ q, W.heap.size ≤ q → ¬ F1 q from fun q hq => hRn.notF hq)
  have RN := Lib.hid RN0
  have O1 := Lib.hid ((Kp.of_below hb0 (fun _ => False)).own o1 (fun _ _ h => h))
  have O2 := Lib.hid ((Kp.of_below hb0 (fun _ => False)).own o2 (fun _ _ h => h))
  have HWS := Lib.hid hRn.kp.size
  have Q0 := Lib.hid (And.intro q0 (And.intro q1 q2))
  have SZ := Lib.hid hsz
  have HK := Lib.hid hk
  have HLK := Lib.hid hlk
  have HR := Lib.hid hr
  have hkc : W0.cell? ⟨gk, m, none⟩ = some (.int .i64 (kid : Int)) := (Kp.of_below hb0 (fun _ => False)).cell hcell id
  have HKC := Lib.hid hkc
  have HSP := Lib.hid hs'
  have hwc : IntKind.i64.wrap (lv : Int) = (lv : Int) := by rw [IntKind.wrap_i64]; omega
  rw [← hlv] at hwc
  have hm3 : (0 : Int) ≤ (m : Int) := by omega
  have hm4 : (m : Int) < (c.kids.length : Int) := by omega
  have hm5 : IntKind.i64.wrap ((m : Int) + 1) = (m : Int) + 1 := by rw [IntKind.wrap_i64]; have := hm2; have h1 := own_cap o2; omega
  have HS := Lib.hid hs
  have HLV := Lib.hid hlv
  rw [← hlv] at HDG
  rw [← hs] at HWO
  obtain ⟨m0, m1, m2', m3, m4, m5, m6, m7, m8, m9⟩ := q0.all
  obtain ⟨x0, x1, x2, x3, x4, _⟩ := q1.all
  have HW0 := Lib.hid hW0
  clear hRn nv nk o1 o2 hcell hfz hk hlk hr hkb hvb hb0 hsz q0 q1 q2 RN0 hkc hW0 hs hlv hm hd hd32 hs' hs2 hlv2
  show Calls Tryz.prog 152 #[wagg x, cagg o c.a c.b (.slice A1 c.vals.length c1) (.slice (some ⟨gk, 0, none⟩) c.kids.length m2)] W _
  go_enter Tryz.func152, Tryz.ntmps152
  go_upto_region 1 with fail
  rw [← HW0.out]
  clear HW0
  go_wp2_with fail
  refine HSD.out.mono ?_
  rintro e w2 ⟨rfl, hb2⟩
  have HB2 := Lib.hid hb2
  clear HSD hb2 m0 m1 m2' m3 m4 m5 m6 m7 m8 m9 x0 x1 x2 x3 x4
  go_upto_region 2 with fail
  obtain ⟨WD, hWD⟩ : ∃ WD, WD = w2.drew := ⟨_, rfl⟩
  have hkD : Kp (fun _ => False) W0 WD := by rw [hWD]; exact (Kp.of_below HB2.out (fun _ => False)).drew
  have hkD' : Kp (fun _ => False) W0 w2.drew := (Kp.of_below HB2.out (fun _ => False)).drew
  have HSD : Q4S w2.drew W.heap.size (W.heap.size + 1) gk m c.kids.length m2 x o c.a c.b (.slice A1 c.vals.length c1) kid := ⟨Q0.out.1.kp hkD' id, Q0.out.2.1.kp hkD' id, hkD'.cell HKC.out id⟩
  clear hkD'
  have HKD := Lib.hid hkD
  have HDR := Lib.hid (vdrop1 kid WD (RN.out.mine hkD (fun _ h => h.elim)).ar HR.out)
  have HWD := Lib.hid hWD
  clear hkD hWD
  have y0 : ∀ W', Q4S W' W.heap.size (W.heap.size + 1) gk m c.kids.length m2 x o c.a c.b (.slice A1 c.vals.length c1) kid → W'.cell? ⟨W.heap.size, 0, none⟩ = some (ap x.b) := fun W' h => h.wy.at rfl
  have y1 : ∀ W', Q4S W' W.heap.size (W.heap.size + 1) gk m c.kids.length m2 x o c.a c.b (.slice A1 c.vals.length c1) kid → W'.cell? ⟨W.heap.size, 1, none⟩ = some (.pointer (some ⟨x.bh, 0, none⟩)) := fun W' h => h.wy.at rfl
  have y2 : ∀ W', Q4S W' W.heap.size (W.heap.size + 1) gk m c.kids.length m2 x o c.a c.b (.slice A1 c.vals.length c1) kid → W'.cell? ⟨W.heap.size, 2, none⟩ = some (.int .u32 x.ow) := fun W' h => h.wy.at rfl
  have y3 : ∀ W', Q4S W' W.heap.size (W.heap.size + 1) gk m c.kids.length m2 x o c.a c.b (.slice A1 c.vals.length c1) kid → W'.cell? ⟨W.heap.size, 3, none⟩ = some (.int .u64 x.g) := fun W' h => h.wy.at rfl
  have y4 : ∀ W', Q4S W' W.heap.size (W.heap.size + 1) gk m c.kids.length m2 x o c.a c.b (.slice A1 c.vals.length c1) kid → W'.cell? ⟨W.heap.size, 4, none⟩ = some (.int .i64 x.root) := fun W' h => h.wy.at rfl
  have y5 : ∀ W', Q4S W' W.heap.size (W.heap.size + 1) gk m c.kids.length m2 x o c.a c.b (.slice A1 c.vals.length c1) kid → W'.cell? ⟨W.heap.size, 5, none⟩ = some (.slice x.A4 x.n4 x.c4) := fun W' h => h.wy.at rfl
  have y6 : ∀ W', Q4S W' W.heap.size (W.heap.size + 1) gk m c.kids.length m2 x o c.a c.b (.slice A1 c.vals.length c1) kid → W'.cell? ⟨W.heap.size, 6, none⟩ = some (.slice x.A5 x.n5 x.c5) := fun W' h => h.wy.at rfl
  have y7 : ∀ W', Q4S W' W.heap.size (W.heap.size + 1) gk m c.kids.length m2 x o c.a c.b (.slice A1 c.vals.length c1) kid → W'.cell? ⟨W.heap.size, 7, none⟩ = some (.slice x.A6 x.n6 x.c6) := fun W' h => h.wy.at rfl
  have y8 : ∀ W', Q4S W' W.heap.size (W.heap.size + 1) gk m c.kids.length m2 x o c.a c.b (.slice A1 c.vals.length c1) kid → W'.cell? ⟨W.heap.size, 8, none⟩ = some (.int .i64 x.at') := fun W' h => h.wy.at rfl
  have y9 : ∀ W', Q4S W' W.heap.size (W.heap.size + 1) gk m c.kids.length m2 x o c.a c.b (.slice A1 c.vals.length c1) kid → W'.cell? ⟨W.heap.size, 9, none⟩ = some (.bool x.has) := fun W' h => h.wy.at rfl
  have kc4 : ∀ W', Q4S W' W.heap.size (W.heap.size + 1) gk m c.kids.length m2 x o c.a c.b (.slice A1 c.vals.length c1) kid → W'.cell? ⟨W.heap.size + 1, 4, none⟩ = some (.slice (some ⟨gk, 0, none⟩) c.kids.length m2) := fun W' h => h.cc.c4
  have kid0 : ∀ W', Q4S W' W.heap.size (W.heap.size + 1) gk m c.kids.length m2 x o c.a c.b (.slice A1 c.vals.length c1) kid → W'.cell? ⟨gk, m, none⟩ = some (.int .i64 (kid : Int)) := fun W' h => h.kid
  refine wp_region_noPanic ?_
  refine wp_region_held_drew (S := fun W' => Q4S W' W.heap.size (W.heap.size + 1) gk m c.kids.length m2 x o c.a c.b (.slice A1 c.vals.length c1) kid) (by kernel_rfl) HSD (fun hH => ?_)
  rw [← HWD.out] at hH ⊢
  clear HWD HSD
  refine tkH ?_ 0 hH ?_ ?_; rotate_left
  · intro W' hS; go_simp; with_reducible rfl
  simp only [tkr]
  refine tkH ?_ 1 hH ?_ ?_; rotate_left
  · intro W' hS; go_simp; with_reducible rfl
  simp only [tkr]
  refine tkH ?_ 2 hH ?_ ?_; rotate_left
  · intro W' hS; go_simp; with_reducible rfl
  simp only [tkr]
  refine tkH ?_ 3 hH ?_ ?_; rotate_left
  · intro W' hS; go_simp; with_reducible rfl
  simp only [tkr]
  refine tkH ?_ 4 hH ?_ ?_; rotate_left
  · intro W' hS; go_simp; with_reducible rfl
  simp only [tkr]
  refine tkH ?_ 5 hH ?_ ?_; rotate_left
  · intro W' hS; go_simp; with_reducible rfl
  simp only [tkr]
  refine tkH ?_ 6 hH ?_ ?_; rotate_left
  · intro W' hS; go_simp; with_reducible rfl
  simp only [tkr]
  refine tkH ?_ 7 hH ?_ ?_; rotate_left
  · intro W' hS; go_simp; with_reducible rfl
  simp only [tkr]
  refine rdH 8 rfl (fun K hK => ?_)
  go_simp
  refine HDR.out.mono ?_
  rintro e W3 ⟨⟨zz, rfl⟩, M2, hd, hst⟩
  have hS3 : Q4S W3 W.heap.size (W.heap.size + 1) gk m c.kids.length m2 x o c.a c.b (.slice A1 c.vals.length c1) kid := ⟨hH.wy.kp hst.kp (NEW.out _ (Nat.le_refl _)), hH.cc.kp hst.kp (NEW.out _ (Nat.le_succ _)), hst.kp.cell hH.kid NKO.out.2.2⟩
  have HDD := Lib.hid hd
  have ST := Lib.hid hst
  have HS3 := Lib.hid hS3
  clear hd hst hS3 hH
  simp only
  refine hK.out _ _ ?_ (fun hH => ?_)
  · exact HS3.out
  clear hK K
  refine wpAnyH_done (by kernel_rfl) ?_ _
  refine NoPanic.normal ?_
  clear y0 y1 y2 y3 y4 y5 y6 y7 y8 y9 kc4 kid0
  have hkp3 : Kp F1 W0 W3 := (HKD.out.mono (fun _ h _ => h.elim)).trans ST.out.kp (fun _ h => .inl h)
  have o2 := ST.out.kp.own (HKD.out.own O2.out (fun _ _ h => h)) (fun q hq => by cases hq; exact NKO.out.2.2)
  have HDEL := Lib.hid (vdeleteI w.heap.size gk c.kids.length m2 m _ W3 o2 (by have := HLK.out; omega) (nums_cell1 _))
  have HK3 := Lib.hid hkp3
  obtain ⟨x0, x1, x2, x3, x4, _⟩ := HS3.out.cc.all
  clear hkp3 o2
  go_wp2_with fail
  refine HDEL.out.mono ?_
  rintro e W4 ⟨rfl, io, ik⟩
  rw [nums_erase] at io
  have c4 := HS3.out.cc.kp ik (by have := NKO.out; intro h; omega)
  have w4 := HS3.out.wy.kp ik (by have := NKO.out; intro h; omega)
  obtain ⟨x0, x1, x2, x3, x4, x5, x6, x7, x8, x9⟩ := c4.all
  go_upto_region 4 with fail
  have c5 := c4.set4 (.slice (some ⟨gk, 0, none⟩) (c.kids.length - 1) m2)
  have w5 : WC (W4.setCell ⟨W.heap.size + 1, 4, none⟩ (.slice (some ⟨gk, 0, none⟩) (c.kids.length - 1) m2)) W.heap.size x := (Below.heap_setCell W4 ⟨W.heap.size + 1, 4, none⟩ _ W.heap.size (fun e => by simp at e)).trans w4
  have k5 : Kp (fun q => q = W.heap.size + 1) W4 (W4.setCell ⟨W.heap.size + 1, 4, none⟩ (.slice (some ⟨gk, 0, none⟩) (c.kids.length - 1) m2)) := (Kp.refl (fun q => q = W.heap.size + 1) W4).setCell (.inl rfl) _
  have fin : ∀ W8 W9, Kp (fun q => q = W.heap.size + 1) W4 W8 → Kp (fun q => q = W.heap.size + 1 + 1) W8 W9 → ∃ v' k' c' M2 F2, Ending.returned (cagg o (s' : Nat) c.b (.slice A1 c.vals.length c1) (.slice (some ⟨gk, 0, none⟩) (c.kids.length - 1) m2)) = .returned (cagg o c'.a c'.b v' k') ∧ Rd W9 v' c'.vals.length (c'.vals.flatMap cells3) ∧ Rd W9 k' c'.kids.length (nums (ns c'.kids)) ∧ Rn w W9 x.b most M2 F F2 ∧ (∀ q, v'.ownBlock = some q → ¬ F2 q) ∧ (∀ q, k'.ownBlock = some q → ¬ F2 q) ∧
      (Drops M1 [kid] M2 ∧ c' = { c with kids := c.kids.eraseIdx m, a := (s' : Int) }) := fun W8 W9 h8 h9 => by
    have hsz := SZ.out
    have nko := NKO.out
    have h89 : Kp (fun q => (q = W.heap.size + 1 ∨ q = W.heap.size + 1 + 1)) W4 W9 := (h8.mono (G := fun q => (q = W.heap.size + 1 ∨ q = W.heap.size + 1 + 1)) (fun _ h _ => .inl h)).trans h9 (fun q h => .inl (.inr h))
    have nFn : ∀ q, q < W.heap.size + 3 → ¬ F1 q → ¬ Fn F1 WD W3 q := fun q hq hn hf => by
      rcases hf with hf | hf
      · exact hn hf
      · have h3 : WD.heap.size ≤ q := hf.1
        have h4 := HKD.out.size
        omega
    have rn := (((RN.out.mine HKD.out (fun _ h => h.elim)).stp ST.out).mine ik (fun g hg => by
      rw [hg]; exact ⟨nko.1, nFn gk (by have := nko.2.1; omega) nko.2.2⟩)).mine h89 (fun g hg => ⟨by have := HWS.out; omega, nFn g (by omega) (NEW.out g (by omega))⟩)
    have hle : (c.kids.eraseIdx m).length = c.kids.length - 1 := List.length_eraseIdx_of_lt HLK.out
    have hv := h89.own (ik.own (ST.out.kp.own (HKD.out.own O1.out (fun _ _ h => h)) (fun q hq => (NVO.out q hq).2.2.1)) (fun q hq => (NVO.out q hq).2.2.2)) (fun q hq h => by have := NVO.out q hq; omega)
    have hk9 := h89.own io (fun q hq h => by
      have e : gk = q := Option.some.inj hq
      have h2 := nko.2.1
      rcases h with h | h <;> omega)
    refine ⟨.slice A1 c.vals.length c1, .slice (some ⟨gk, 0, none⟩) (c.kids.length - 1) m2, { c with kids := c.kids.eraseIdx m, a := (s' : Int) }, M2, _, rfl, Rd.of_own hv, ?_, rn, fun q hq => nFn q (by have := NVO.out q hq; omega) (NVO.out q hq).2.2.1, fun q hq => by cases hq; exact nFn gk (by have := nko.2.1; omega) nko.2.2, HDD.out, rfl⟩
    show Rd _ _ (c.kids.eraseIdx m).length _
    rw [hle]
    exact Rd.of_own hk9
  have FIN := Lib.hid fin
  have Q4 := Lib.hid ((Q0.out.2.2.kp HK3.out (NEW.out _ (by omega))).kp ik (by have := NKO.out; intro h; omega))
  clear fin io ik c4 w4 x0 x1 x2 x3 x4 x5 x6 x7 x8 x9 hm3 hm4 hm5
  obtain ⟨W5, hW5⟩ : ∃ W5, W5 = W4.setCell ⟨W.heap.size + 1, 4, none⟩ (.slice (some ⟨gk, 0, none⟩) (c.kids.length - 1) m2) := ⟨_, rfl⟩
  rw [← hW5] at c5 w5 k5 ⊢
  clear hW5
  have hS5 : Q5S W5.drew W.heap.size (W.heap.size + 1) x c.b := ⟨w5, _, _, _, _, c5⟩
  have y0 : ∀ W', Q5S W' W.heap.size (W.heap.size + 1) x c.b → W'.cell? ⟨W.heap.size, 0, none⟩ = some (ap x.b) := fun W' h => h.wy.at rfl
  have y1 : ∀ W', Q5S W' W.heap.size (W.heap.size + 1) x c.b → W'.cell? ⟨W.heap.size, 1, none⟩ = some (.pointer (some ⟨x.bh, 0, none⟩)) := fun W' h => h.wy.at rfl
  have y2 : ∀ W', Q5S W' W.heap.size (W.heap.size + 1) x c.b → W'.cell? ⟨W.heap.size, 2, none⟩ = some (.int .u32 x.ow) := fun W' h => h.wy.at rfl
  have y3 : ∀ W', Q5S W' W.heap.size (W.heap.size + 1) x c.b → W'.cell? ⟨W.heap.size, 3, none⟩ = some (.int .u64 x.g) := fun W' h => h.wy.at rfl
  have y4 : ∀ W', Q5S W' W.heap.size (W.heap.size + 1) x c.b → W'.cell? ⟨W.heap.size, 4, none⟩ = some (.int .i64 x.root) := fun W' h => h.wy.at rfl
  have y5 : ∀ W', Q5S W' W.heap.size (W.heap.size + 1) x c.b → W'.cell? ⟨W.heap.size, 5, none⟩ = some (.slice x.A4 x.n4 x.c4) := fun W' h => h.wy.at rfl
  have y6 : ∀ W', Q5S W' W.heap.size (W.heap.size + 1) x c.b → W'.cell? ⟨W.heap.size, 6, none⟩ = some (.slice x.A5 x.n5 x.c5) := fun W' h => h.wy.at rfl
  have y7 : ∀ W', Q5S W' W.heap.size (W.heap.size + 1) x c.b → W'.cell? ⟨W.heap.size, 7, none⟩ = some (.slice x.A6 x.n6 x.c6) := fun W' h => h.wy.at rfl
  have y8 : ∀ W', Q5S W' W.heap.size (W.heap.size + 1) x c.b → W'.cell? ⟨W.heap.size, 8, none⟩ = some (.int .i64 x.at') := fun W' h => h.wy.at rfl
  have y9 : ∀ W', Q5S W' W.heap.size (W.heap.size + 1) x c.b → W'.cell? ⟨W.heap.size, 9, none⟩ = some (.bool x.has) := fun W' h => h.wy.at rfl
  have kc2 : ∀ W', Q5S W' W.heap.size (W.heap.size + 1) x c.b → W'.cell? ⟨W.heap.size + 1, 2, none⟩ = some (.int .u32 c.b) := fun W' h => by
    obtain ⟨_, _, _, _, hc⟩ := h.cc
    exact hc.c2
  refine wp_region_noPanic ?_
  refine wp_region_held_drew (S := fun W' => Q5S W' W.heap.size (W.heap.size + 1) x c.b) (by kernel_rfl) hS5 (fun hH => ?_)
  have hS0 := hH
  have hC0 : C5 W5.drew (W.heap.size + 1) 136 (.int .u32 o) (.int .u32 c.a) (.int .u32 c.b) (.slice A1 c.vals.length c1) (.slice (some ⟨gk, 0, none⟩) (c.kids.length - 1) m2) := c5
  have hKP0 := k5.drew
  clear hS5 c5 w5 k5
  generalize W5.drew = W0' at hH hS0 hC0 hKP0 ⊢
  refine tkH ?_ 0 hH ?_ ?_; rotate_left
  · intro W' hS; go_simp; with_reducible rfl
  simp only [tkr]
  refine tkH ?_ 2 hH ?_ ?_; rotate_left
  · intro W' hS; go_simp; with_reducible rfl
  simp only [tkr]
  refine tkH ?_ 3 hH ?_ ?_; rotate_left
  · intro W' hS; go_simp; with_reducible rfl
  simp only [tkr]
  refine tkH ?_ 4 hH ?_ ?_; rotate_left
  · intro W' hS; go_simp; with_reducible rfl
  simp only [tkr]
  refine tkH ?_ 5 hH ?_ ?_; rotate_left
  · intro W' hS; go_simp; with_reducible rfl
  simp only [tkr]
  refine tkH ?_ 6 hH ?_ ?_; rotate_left
  · intro W' hS; go_simp; with_reducible rfl
  simp only [tkr]
  refine wpAnyH_ready (rs := [1, 7]) (by kernel_rfl) (by simp) ?_
  refine AllReadyH.cons rfl (fun K hK => ?_) (AllReadyH.cons rfl (fun K hK => ?_) AllReadyH.nil)
  · have kc := hC0.c1
    go_simp
    clear kc
    refine hK.out _ _ ?_ (fun hH => ?_)
    · exact hS0
    clear hK K
    refine rdH 7 rfl (fun K hK => ?_)
    go_simp
    refine (HDG.out _).mono ?_
    rintro e w' ⟨rfl, rfl⟩
    simp only
    refine hK.out _ _ ?_ (fun hH => ?_)
    · exact hS0
    clear hK K
    refine rdH 8 rfl (fun K hK => ?_)
    go_simp
    have hS3 := hS0.kp ((Kp.refl (fun _ => False) W0').alloc (.cells #[.int .i64 (d : Int)] 3)) ⟨id, id⟩
    have hC3 := hC0.alloc (.cells #[.int .i64 (d : Int)] 3)
    have hKP3 := hKP0.alloc (.cells #[.int .i64 (d : Int)] 3)
    have hr3 : (W0'.alloc (.cells #[.int .i64 (d : Int)] 3)).cell? ⟨W0'.heap.size, 0, none⟩ = some (.int .i64 (d : Int)) := by simp [go_sem]
    refine hK.out _ _ ?_ (fun hH => ?_)
    · exact hS3
    clear hK K hH
    generalize W0'.alloc (.cells #[.int .i64 (d : Int)] 3) = W3 at hS3 hC3 hKP3 hr3 ⊢
    generalize W0'.heap.size = b3 at hr3 ⊢
    refine rdH 9 rfl (fun K hK => ?_)
    go_simp
    refine (HWO.out W3 b3 hr3).mono ?_
    rintro e w' ⟨rfl, rfl⟩
    have hH := hS3
    simp only
    refine hK.out _ _ ?_ (fun hH => ?_)
    · exact hS3
    clear hK K
    refine tkH ?_ 10 hH ?_ ?_; rotate_left
    · intro W' hS; go_simp; with_reducible rfl
    simp only [tkr]
    refine rdH 11 rfl (fun K hK => ?_)
    have kc := hC3.c1
    have kf := hC3.fz 1
    go_simp
    clear kc kf
    refine hK.out _ _ ?_ (fun hH => ?_)
    · exact hS3.set (by omega) _
    clear hK K
    refine wpAnyH_done (by kernel_rfl) ?_ _
    refine NoPanic.normal ?_
    have hD := hC3.set1 (.int .u32 (s' : Int))
    have hE := hKP3.setCell (b := W.heap.size + 1) (o := 1) (.inl rfl) (.int .u32 (s' : Int))
    clear hH
    generalize W3.setCell ⟨W.heap.size + 1, 1, none⟩ (.int .u32 (s' : Int)) = W9 at hD hE ⊢
    clear hS3 hC3 hKP3
    have qz := Q4.out.kp hE (by intro h; omega)
    obtain ⟨x0, x1, x2, x3, x4, x5, x6, x7, x8, x9⟩ := hD.all
    obtain ⟨z0, z1, z2, z3, z4, u0, u1, u2, u3, u4⟩ := qz.all
    clear y0 y1 y2 y3 y4 y5 y6 y7 y8 y9 kc2
    go_wp2_with fail
    refine bodyPost_ret (v := cagg o (s' : Nat) c.b (.slice A1 c.vals.length c1) (.slice (some ⟨gk, 0, none⟩) (c.kids.length - 1) m2)) (by simp [results, Tryz.results152, go_sem, z0, z1, z2, z3, z4]) rfl (FIN.out W9 _ hE ?_)
    repeat first
      | with_reducible exact Kp.refl _ _
      | with_reducible refine Kp.setCell ?_ (by simp) _
  · go_simp
    refine (HDG.out _).mono ?_
    rintro e w' ⟨rfl, rfl⟩
    simp only
    refine hK.out _ _ ?_ (fun hH => ?_)
    · exact hS0
    clear hK K
    refine wpAnyH_ready (rs := [1, 8]) (by kernel_rfl) (by simp) ?_
    refine AllReadyH.cons rfl (fun K hK => ?_) (AllReadyH.cons rfl (fun K hK => ?_) AllReadyH.nil)
    · have kc := hC0.c1
      go_simp
      clear kc
      refine hK.out _ _ ?_ (fun hH => ?_)
      · exact hS0
      clear hK K
      refine rdH 8 rfl (fun K hK => ?_)
      go_simp
      have hS6 := hS0.kp ((Kp.refl (fun _ => False) W0').alloc (.cells #[.int .i64 (d : Int)] 3)) ⟨id, id⟩
      have hC6 := hC0.alloc (.cells #[.int .i64 (d : Int)] 3)
      have hKP6 := hKP0.alloc (.cells #[.int .i64 (d : Int)] 3)
      have hr6 : (W0'.alloc (.cells #[.int .i64 (d : Int)] 3)).cell? ⟨W0'.heap.size, 0, none⟩ = some (.int .i64 (d : Int)) := by simp [go_sem]
      refine hK.out _ _ ?_ (fun hH => ?_)
      · exact hS6
      clear hK K hH
      generalize W0'.alloc (.cells #[.int .i64 (d : Int)] 3) = W6 at hS6 hC6 hKP6 hr6 ⊢
      generalize W0'.heap.size = b6 at hr6 ⊢
      refine rdH 9 rfl (fun K hK => ?_)
      go_simp
      refine (HWO.out W6 b6 hr6).mono ?_
      rintro e w' ⟨rfl, rfl⟩
      have hH := hS6
      simp only
      refine hK.out _ _ ?_ (fun hH => ?_)
      · exact hS6
      clear hK K
      refine tkH ?_ 10 hH ?_ ?_; rotate_left
      · intro W' hS; go_simp; with_reducible rfl
      simp only [tkr]
      refine rdH 11 rfl (fun K hK => ?_)
      have kc := hC6.c1
      have kf := hC6.fz 1
      go_simp
      clear kc kf
      refine hK.out _ _ ?_ (fun hH => ?_)
      · exact hS6.set (by omega) _
      clear hK K
      refine wpAnyH_done (by kernel_rfl) ?_ _
      refine NoPanic.normal ?_
      have hD := hC6.set1 (.int .u32 (s' : Int))
      have hE := hKP6.setCell (b := W.heap.size + 1) (o := 1) (.inl rfl) (.int .u32 (s' : Int))
      clear hH
      generalize W6.setCell ⟨W.heap.size + 1, 1, none⟩ (.int .u32 (s' : Int)) = W9 at hD hE ⊢
      clear hS6 hC6 hKP6
      have qz := Q4.out.kp hE (by intro h; omega)
      obtain ⟨x0, x1, x2, x3, x4, x5, x6, x7, x8, x9⟩ := hD.all
      obtain ⟨z0, z1, z2, z3, z4, u0, u1, u2, u3, u4⟩ := qz.all
      clear y0 y1 y2 y3 y4 y5 y6 y7 y8 y9 kc2
      go_wp2_with fail
      refine bodyPost_ret (v := cagg o (s' : Nat) c.b (.slice A1 c.vals.length c1) (.slice (some ⟨gk, 0, none⟩) (c.kids.length - 1) m2)) (by simp [results, Tryz.results152, go_sem, z0, z1, z2, z3, z4]) rfl (FIN.out W9 _ hE ?_)
      repeat first
        | with_reducible exact Kp.refl _ _
        | with_reducible refine Kp.setCell ?_ (by simp) _
    · go_simp
      have hS7 := hS0.kp ((Kp.refl (fun _ => False) W0').alloc (.cells #[.int .i64 (d : Int)] 3)) ⟨id, id⟩
      have hC7 := hC0.alloc (.cells #[.int .i64 (d : Int)] 3)
      have hKP7 := hKP0.alloc (.cells #[.int .i64 (d : Int)] 3)
      have hr7 : (W0'.alloc (.cells #[.int .i64 (d : Int)] 3)).cell? ⟨W0'.heap.size, 0, none⟩ = some (.int .i64 (d : Int)) := by simp [go_sem]
      refine hK.out _ _ ?_ (fun hH => ?_)
      · exact hS7
      clear hK K hH
      generalize W0'.alloc (.cells #[.int .i64 (d : Int)] 3) = W7 at hS7 hC7 hKP7 hr7 ⊢
      generalize W0'.heap.size = b7 at hr7 ⊢
      refine rdH 1 rfl (fun K hK => ?_)
      have kc := hC7.c1
      go_simp
      clear kc
      refine hK.out _ _ ?_ (fun hH => ?_)
      · exact hS7
      clear hK K
      refine rdH 9 rfl (fun K hK => ?_)
      go_simp
      refine (HWO.out W7 b7 hr7).mono ?_
      rintro e w' ⟨rfl, rfl⟩
      have hH := hS7
      simp only
      refine hK.out _ _ ?_ (fun hH => ?_)
      · exact hS7
      clear hK K
      refine tkH ?_ 10 hH ?_ ?_; rotate_left
      · intro W' hS; go_simp; with_reducible rfl
      simp only [tkr]
      refine rdH 11 rfl (fun K hK => ?_)
      have kc := hC7.c1
      have kf := hC7.fz 1
      go_simp
      clear kc kf
      refine hK.out _ _ ?_ (fun hH => ?_)
      · exact hS7.set (by omega) _
      clear hK K
      refine wpAnyH_done (by kernel_rfl) ?_ _
      refine NoPanic.normal ?_
      have hD := hC7.set1 (.int .u32 (s' : Int))
      have hE := hKP7.setCell (b := W.heap.size + 1) (o := 1) (.inl rfl) (.int .u32 (s' : Int))
      clear hH
      generalize W7.setCell ⟨W.heap.size + 1, 1, none⟩ (.int .u32 (s' : Int)) = W9 at hD hE ⊢
      clear hS7 hC7 hKP7
      have qz := Q4.out.kp hE (by intro h; omega)
      obtain ⟨x0, x1, x2, x3, x4, x5, x6, x7, x8, x9⟩ := hD.all
      obtain ⟨z0, z1, z2, z3, z4, u0, u1, u2, u3, u4⟩ := qz.all
      clear y0 y1 y2 y3 y4 y5 y6 y7 y8 y9 kc2
      go_wp2_with fail
      refine bodyPost_ret (v := cagg o (s' : Nat) c.b (.slice A1 c.vals.length c1) (.slice (some ⟨gk, 0, none⟩) (c.kids.length - 1) m2)) (by simp [results, Tryz.results152, go_sem, z0, z1, z2, z3, z4]) rfl (FIN.out W9 _ hE ?_)
      repeat first
        | with_reducible exact Kp.refl _ _
        | with_reducible refine Kp.setCell ?_ (by simp) _
end

end Go.Proofs.YthcpjehkjhpjfaaGreat

namespace Go.Proofs.YthcpjehkjhpjfaaGreat
set_option maxRecDepth 100000
open Go.RowKit
section
variable {b most : Nat} {M : Cells} {F : Nat → Prop}
set_option maxHeartbeats 1600000 in
theorem vbelow_no (bh i : Nat) (lv : Int) (w : World) (h : Ar w b most M F) (hM : M i = none) :
    Calls Tryz.prog 135 #[land b bh, .int .i64 (i : Nat), .int .i64 lv] w fun e w' => e = .returned (.tuple #[cagg 0 0 0 (.slice none 0 0) (.slice none 0 0), .bool false]) ∧ Below w.heap.size w w' := by
  have hb1 : Below w.heap.size w ((w.alloc (.cells #[ap b, .pointer (some ⟨bh, 0, none⟩)] 30)).alloc (.cells #[.int .u32 0, .int .u32 0, .int .u32 0, .slice none 0 0, .slice none 0 0] 136)) := ((Below.refl w.heap.size w).alloc (Nat.le_refl _) _).alloc (by simp) _
  have e1 : (w.alloc (.cells #[ap b, .pointer (some ⟨bh, 0, none⟩)] 30)).heap.size = w.heap.size + 1 := by simp
  have q1 := (C2.new w 30 (ap b) (.pointer (some ⟨bh, 0, none⟩))).alloc (.cells #[.int .u32 0, .int .u32 0, .int .u32 0, .slice none 0 0, .slice none 0 0] 136)
  have q2 := C5.new (w.alloc (.cells #[ap b, .pointer (some ⟨bh, 0, none⟩)] 30)) 136 (.int .u32 0) (.int .u32 0) (.int .u32 0) (.slice none 0 0) (.slice none 0 0)
  rw [e1] at q2
  have HA := Lib.hid (h.below hb1)
  have HB := Lib.hid hb1
  have HC := Lib.hid (show contC M i = ⟨0, 0, 0, [], []⟩ by unfold contC; rw [hM])
  have HSm := Lib.hid (show (M i).isSome = false by rw [hM]; rfl)
  clear h hb1 e1 hM
  go_enter Tryz.func135, Tryz.ntmps135
  go_upto_region 1 with fail
  generalize (w.alloc (.cells #[ap b, .pointer (some ⟨bh, 0, none⟩)] 30)).alloc (.cells #[.int .u32 0, .int .u32 0, .int .u32 0, .slice none 0 0, .slice none 0 0] 136) = w1 at q1 q2 HA HB ⊢
  obtain ⟨z, hz⟩ : ∃ z, z = w.heap.size := ⟨_, rfl⟩
  rw [← hz] at q1 q2 ⊢
  have HZ := Lib.hid hz
  have HQ2 := Lib.hid q2
  obtain ⟨k0, k1, _⟩ := q1.all
  clear q1 q2 hz
  go_wp2_with fail
  refine (vget i w1 HA.out).mono ?_
  rintro e w2 ⟨v, k, rfl, hv, hk, hb2⟩
  rw [HC.out] at hv hk
  rw [HC.out, HSm.out]
  obtain ⟨A1, c1, rfl, _⟩ := (Rd.of_own hv).form
  obtain ⟨A2, c2, rfl, _⟩ := (Rd.of_own hk).form
  have HB2 := Lib.hid hb2
  have q3 := HQ2.out.below hb2
  have hzl := q3.lt
  clear hv hk hb2 k0 k1
  go_upto_region 2 with fail
  obtain ⟨w3, hw3⟩ : ∃ w3, w3 = w2.alloc (.cells #[.int .u32 0, .int .u32 0, .int .u32 0, .slice A1 0 c1, .slice A2 0 c2] 136) := ⟨_, rfl⟩
  have hb3 : Below w2.heap.size w2 w3 := by rw [hw3]; exact (Below.refl _ w2).alloc (Nat.le_refl _) _
  have hw3' : w2.alloc (.cells #[.int .u32 0, .int .u32 0, .int .u32 0, .slice A1 ([] : List V3).length c1, .slice A2 ([] : List Nat).length c2] 136) = w3 := by rw [hw3]; rfl
  have HB3 := Lib.hid hb3
  obtain ⟨r0, r1, r2, r3, r4, f0, f1, f2, f3, f4⟩ := (q3.below hb3).all
  have HW3 := Lib.hid hw3'
  clear q3 hzl hw3 hb3 hw3'
  first
    | rw [HW3.out]
    | (change Code.wp _ _ _ _ (w2.alloc (.cells #[.int .u32 0, .int .u32 0, .int .u32 0, .slice A1 ([] : List V3).length c1, .slice A2 ([] : List Nat).length c2] 136)); rw [HW3.out])
  go_wp2_with fail
  have fin : ∀ W9, Kp (fun q => q = z + 1) w3 W9 → Below w.heap.size w W9 := fun W9 h9 => by
    refine (((Kp.of_below HB.out (fun _ => False)).trans (Kp.of_below HB2.out (fun _ => False)) (fun _ h => h.elim)).trans ((Kp.of_below HB3.out (fun q => q = z + 1)).trans h9 (fun q h => .inl h)) (fun q e => .inr ?_)).below (fun _ h => h.elim)
    have := HZ.out
    omega
  refine bodyPost_ret (v := .tuple #[cagg 0 0 0 (.slice none 0 0) (.slice none 0 0), .bool false]) (by simp [results, Tryz.results135, go_sem, r0, r1, r2, r3, r4]) rfl ⟨rfl, fin _ ?_⟩
  repeat first
    | with_reducible exact Kp.refl _ _
    | with_reducible refine Kp.setCell ?_ (by simp) _
end

end Go.Proofs.YthcpjehkjhpjfaaGreat

namespace Go.Proofs.YthcpjehkjhpjfaaGreat
set_option maxRecDepth 100000
open Go.RowKit
theorem Hs.kp {w w' : World} {b seed : Nat} {G : Nat → Prop} (h : Hs w b seed) (hk : Kp G w w') (hn : ¬ G b) : Hs w' b seed := by
  obtain ⟨d, q, key, h, k⟩ := h
  exact ⟨d, q, key, hk.at h hn, k⟩
def ZW (w : World) (z : Nat) : Prop := w.heap[z]? = some (.cells #[.pointer none, .pointer none, .int .u32 0, .int .u64 0, .int .i64 0, .slice none 0 0, .slice none 0 0, .slice none 0 0, .int .i64 0, .bool false] 162 (0, 0))
section
variable {w w' : World} {z : Nat} {x : Wv}
theorem ZW.kp {G : Nat → Prop} (h : ZW w z) (hk : Kp G w w') (hn : ¬ G z) : ZW w' z := hk.at h hn
theorem ZW.lt (h : ZW w z) : z < w.heap.size := (Array.getElem?_eq_some_iff.1 h).1
theorem ZW.all (h : ZW w z) : w.cell? ⟨z, 0, none⟩ = some (.pointer none) ∧ w.cell? ⟨z, 1, none⟩ = some (.pointer none) ∧ w.cell? ⟨z, 2, none⟩ = some (.int .u32 0) ∧ w.cell? ⟨z, 3, none⟩ = some (.int .u64 0) ∧ w.cell? ⟨z, 4, none⟩ = some (.int .i64 0) ∧ w.cell? ⟨z, 5, none⟩ = some (.slice none 0 0) ∧ w.cell? ⟨z, 6, none⟩ = some (.slice none 0 0) ∧ w.cell? ⟨z, 7, none⟩ = some (.slice none 0 0) ∧ w.cell? ⟨z, 8, none⟩ = some (.int .i64 0) ∧ w.cell? ⟨z, 9, none⟩ = some (.bool false) := by
  refine ⟨?_, ?_, ?_, ?_, ?_, ?_, ?_, ?_, ?_, ?_⟩ <;> exact cell_of_row w z _ _ _ (0, 0) h
theorem ZW.fzs (h : ZW w z) : w.frozen? ⟨z, 0, none⟩ = false ∧ w.frozen? ⟨z, 1, none⟩ = false ∧ w.frozen? ⟨z, 2, none⟩ = false ∧ w.frozen? ⟨z, 3, none⟩ = false ∧ w.frozen? ⟨z, 4, none⟩ = false ∧ w.frozen? ⟨z, 5, none⟩ = false ∧ w.frozen? ⟨z, 6, none⟩ = false ∧ w.frozen? ⟨z, 7, none⟩ = false ∧ w.frozen? ⟨z, 8, none⟩ = false ∧ w.frozen? ⟨z, 9, none⟩ = false :=
  ⟨frozen_of_row w z _ _ _ h, frozen_of_row w z _ _ _ h, frozen_of_row w z _ _ _ h, frozen_of_row w z _ _ _ h, frozen_of_row w z _ _ _ h, frozen_of_row w z _ _ _ h, frozen_of_row w z _ _ _ h, frozen_of_row w z _ _ _ h, frozen_of_row w z _ _ _ h, frozen_of_row w z _ _ _ h⟩
theorem WC.fzs (h : WC w z x) : w.frozen? ⟨z, 0, none⟩ = false ∧ w.frozen? ⟨z, 1, none⟩ = false ∧ w.frozen? ⟨z, 2, none⟩ = false ∧ w.frozen? ⟨z, 3, none⟩ = false ∧ w.frozen? ⟨z, 4, none⟩ = false ∧ w.frozen? ⟨z, 5, none⟩ = false ∧ w.frozen? ⟨z, 6, none⟩ = false ∧ w.frozen? ⟨z, 7, none⟩ = false ∧ w.frozen? ⟨z, 8, none⟩ = false ∧ w.frozen? ⟨z, 9, none⟩ = false :=
  ⟨frozen_of_row w z _ _ _ h, frozen_of_row w z _ _ _ h, frozen_of_row w z _ _ _ h, frozen_of_row w z _ _ _ h, frozen_of_row w z _ _ _ h, frozen_of_row w z _ _ _ h, frozen_of_row w z _ _ _ h, frozen_of_row w z _ _ _ h, frozen_of_row w z _ _ _ h, frozen_of_row w z _ _ _ h⟩
theorem WC.set5 (h : WC w z x) (A : Option Addr) (n c : Nat) : WC (w.setCell ⟨z, 5, none⟩ (.slice A n c)) z { x with A4 := A, n4 := n, c4 := c } := by
  have := heap_setCell_same w z 5 _ _ (.slice A n c) h
  simpa [WC] using this
theorem WC.set6 (h : WC w z x) (A : Option Addr) (n c : Nat) : WC (w.setCell ⟨z, 6, none⟩ (.slice A n c)) z { x with A5 := A, n5 := n, c5 := c } := by
  have := heap_setCell_same w z 6 _ _ (.slice A n c) h
  simpa [WC] using this
theorem WC.set7 (h : WC w z x) (A : Option Addr) (n c : Nat) : WC (w.setCell ⟨z, 7, none⟩ (.slice A n c)) z { x with A6 := A, n6 := n, c6 := c } := by
  have := heap_setCell_same w z 7 _ _ (.slice A n c) h
  simpa [WC] using this
theorem WC.set8 (h : WC w z x) (n : Nat) : WC (w.setCell ⟨z, 8, none⟩ (.int .i64 (n : Int))) z { x with at' := n } := by
  have := heap_setCell_same w z 8 _ _ (.int .i64 (n : Int)) h
  simpa [WC] using this
theorem WC.set9 (h : WC w z x) (n : Bool) : WC (w.setCell ⟨z, 9, none⟩ (.bool n)) z { x with has := n } := by
  have := heap_setCell_same w z 9 _ _ (.bool n) h
  simpa [WC] using this
set_option maxHeartbeats 1600000 in
theorem ZW.put (h : ZW w z) (x : Wv) : WC ((((((((((w.setCell ⟨z, 0, none⟩ (ap x.b)).setCell ⟨z, 1, none⟩ (.pointer (some ⟨x.bh, 0, none⟩))).setCell ⟨z, 2, none⟩ (.int .u32 x.ow)).setCell ⟨z, 3, none⟩ (.int .u64 x.g)).setCell ⟨z, 4, none⟩ (.int .i64 x.root)).setCell ⟨z, 5, none⟩ (.slice x.A4 x.n4 x.c4)).setCell ⟨z, 6, none⟩ (.slice x.A5 x.n5 x.c5)).setCell ⟨z, 7, none⟩ (.slice x.A6 x.n6 x.c6)).setCell ⟨z, 8, none⟩ (.int .i64 x.at')).setCell ⟨z, 9, none⟩ (.bool x.has)) z x := by
  have h0 := heap_setCell_same _ z 0 _ _ (ap x.b) h
  have h1 := heap_setCell_same _ z 1 _ _ (.pointer (some ⟨x.bh, 0, none⟩)) h0
  have h2 := heap_setCell_same _ z 2 _ _ (.int .u32 x.ow) h1
  have h3 := heap_setCell_same _ z 3 _ _ (.int .u64 x.g) h2
  have h4 := heap_setCell_same _ z 4 _ _ (.int .i64 x.root) h3
  have h5 := heap_setCell_same _ z 5 _ _ (.slice x.A4 x.n4 x.c4) h4
  have h6 := heap_setCell_same _ z 6 _ _ (.slice x.A5 x.n5 x.c5) h5
  have h7 := heap_setCell_same _ z 7 _ _ (.slice x.A6 x.n6 x.c6) h6
  have h8 := heap_setCell_same _ z 8 _ _ (.int .i64 x.at') h7
  have h9 := heap_setCell_same _ z 9 _ _ (.bool x.has) h8
  simpa [WC] using h9
end
section
variable {M : Cells} {hs : Ky → Nat} {g lv i : Nat} {l lf : List Pr} {cl : List (Nat × Nat)}
theorem Wy.step (h : Wy M hs g lv i l cl lf) : ∃ (c : Hc) (r bL : Nat) (rest : List (Nat × Nat)), M i = some (c, r) ∧ c.b = (bL : Int) ∧ lv ≤ bL ∧ bL ≤ 13 ∧ Sound c ∧ cl = (i, bL) :: rest ∧
    ((bL = 13 ∧ rest = [] ∧ c.vals = flatP lf) ∨ (bL < 13 ∧ ∃ (s i' : Nat) (l' : List Pr), c.a = (s : Int) ∧ s < 4294967296 ∧ c.kids[sdx s g bL]? = some i' ∧ Wy M hs g (bL + 1) i' l' rest lf)) := by
  cases h with
  | leaf h => exact ⟨_, _, 13, [], h.cell, by rw [h.cb]; rfl, h.lv, Nat.le_refl _, h.sound, rfl, .inl ⟨rfl, rfl, h.vals⟩⟩
  | @node lv i l c r b s K L d cl lf h hT hd hx hw => exact ⟨c, r, b, cl, h.cell, h.cb, h.lv, Nat.le_of_lt h.b13, h.sound, rfl, .inr ⟨h.b13, s, K d, L d, h.ca, h.s32, by rw [← hx]; exact h.kid d (bit_lt h.s32 hd) hd, hw⟩⟩
theorem Wy.sublist (h : Wy M hs g lv i l cl lf) : lf.Sublist l := by
  induction h with
  | leaf h => exact List.Sublist.refl _
  | @node lv i l c r b s K L d cl lf h hT hd hx hw ih =>
    refine ih.trans ?_
    rw [h.eq]
    unfold joinL
    exact List.sublist_flatten_of_mem (List.mem_map.2 ⟨d, List.mem_range.2 (bit_lt h.s32 hd), rfl⟩) |> fun h => by simpa [List.flatMap] using h
theorem Wy.cl_len (h : Wy M hs g lv i l cl lf) : cl.length + lv ≤ 14 := by
  induction h with
  | leaf h => have := h.lv; simp only [List.length_cons, List.length_nil]; omega
  | node h _ _ _ _ ih => have := h.lv; simp only [List.length_cons]; omega
end
section
set_option maxHeartbeats 800000 in
theorem vlacks (b bh : Nat) (w : World) : Calls Tryz.prog 89 #[land b bh] w fun e w' => e = .returned (.bool false) ∧ Below w.heap.size w w' := by
  have HB := Lib.hid ((Below.refl w.heap.size w).alloc (Nat.le_refl _) (.cells #[ap b, .pointer (some ⟨bh, 0, none⟩)] 30))
  go_enter Tryz.func89, Tryz.ntmps89
  go_wp2_with fail
  go_ret
  exact ⟨rfl, HB.out⟩
end
structure Q6S (W : World) (zl zm zk b bh N root : Nat) (k : Ky) : Prop where
  lb : C2 W zl 30 (ap b) (.pointer (some ⟨bh, 0, none⟩))
  mb : C2 W zm 33 (.int .i64 (N : Int)) (.int .i64 (root : Int))
  kb : C3 W zk 43 (.int .u8 k.1) (.int .i64 k.2.1) (.string k.2.2)
theorem Q6S.kp {W W' : World} {zl zm zk b bh N root : Nat} {k : Ky} {G : Nat → Prop} (h : Q6S W zl zm zk b bh N root k) (hk : Kp G W W') (hn : ¬ G zl ∧ ¬ G zm ∧ ¬ G zk) : Q6S W' zl zm zk b bh N root k :=
  ⟨h.lb.kp hk hn.1, h.mb.kp hk hn.2.1, h.kb.kp hk hn.2.2⟩

end Go.Proofs.YthcpjehkjhpjfaaGreat

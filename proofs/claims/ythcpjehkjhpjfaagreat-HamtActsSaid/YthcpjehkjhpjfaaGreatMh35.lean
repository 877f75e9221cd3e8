/- Several texts in one. -/
import Derived.Test.YthcpjehkjhpjfaaGreatMh29
import Derived.Test.YthcpjehkjhpjfaaGreatMh34
import Derived.IntWalk
import Derived.Deep.CutRange
import Derived.Deep.CutBlock
import Derived.BigQuiet
import Derived.Test.YthcpjehkjhpjfaaGreatMh11
import Derived.Test.YthcpjehkjhpjfaaGreatMh23
set_option linter.unusedSimpArgs false
namespace Go.Proofs.YthcpjehkjhpjfaaGreat
set_option maxRecDepth 100000
set_option linter.unusedSimpArgs false
set_option linter.unusedVariables false
open Go.RowKit
section
set_option maxHeartbeats 8000000 in
theorem lact3 {w0 W : World} {b bh seed zw g cp : Nat} {hs : Ky → Nat} {M : Cells} {F : Nat → Prop} {last : Int} {E : List En} (h : Wd w0 W b bh seed zw hs M F (.slice (some ⟨g, 0, none⟩) E.length cp) last E) (hhs : ∀ q, OkK q → hs q = hashN seed q.1 q.2.1 q.2.2) (a : Ac) (hf : a.Fits) (hk : OkK a.k) (hkd : a.kd.tmod 8 = 3) (hlv : live (65536 + 1) M + 640 ≤ 65536) (hE : 1 ≤ E.length ∧ E.length ≤ 10) :
    Calls Tryz.prog 17 #[.pointer (some ⟨zw, 0, none⟩), .agg #[.int .u8 a.kd, .int .i64 a.i, .int .i64 a.n, .int .u8 a.k.1, .int .i64 a.k.2.1, .string a.k.2.2, .int .u8 a.v.1, .int .i64 a.v.2.1, .string a.v.2.2]] W fun x W' => x = .returned (.bool true) ∧ Acted w0 W W' b bh seed zw hs M F g E := by
  obtain ⟨i1, hi1, hy0, hy1, hy2⟩ := info_parts oinfo
  have HI1 := Lib.hid hi1
  clear hi1
  have HWD := Lib.hid h
  have HHS := Lib.hid hhs
  have HA := Lib.hid (And.intro hf (And.intro hk (And.intro hlv hE)))
  have hzl := h.wb.lt
  have x0 := h.wb.c0
  have x3 := h.wb.c3
  have hE1 := hE.1
  have hE2 := hE.2
  obtain ⟨i, hi, hi0⟩ := act_at a.i E.length (by omega) (by omega)
  obtain ⟨n, hn, hn0⟩ := act_n a.n
  have HI := Lib.hid hi0
  have HN := Lib.hid hn0
  have HKD := Lib.hid hkd
  obtain ⟨e, he⟩ : ∃ e, E[i]? = some e := ⟨_, List.getElem?_eq_getElem hi⟩
  have HE := Lib.hid he
  clear h hhs hf hk hlv hE hkd hi0 hn0 he
  have hwl : IntKind.u64.wrap (E.length : Int) = (E.length : Int) := by rw [IntKind.wrap_u64]; omega
  have c9 := C9.new W a
  have hb9 : Below W.heap.size W (W.alloc (.cells #[.int .u8 a.kd, .int .i64 a.i, .int .i64 a.n, .int .u8 a.k.1, .int .i64 a.k.2.1, .string a.k.2.2, .int .u8 a.v.1, .int .i64 a.v.2.1, .string a.v.2.2] 45)) := (Below.refl _ W).alloc (Nat.le_refl _) _
  go_enter Tryz.func17, Tryz.ntmps17
  go_upto_region 1 with fail
  generalize W.alloc (.cells #[.int .u8 a.kd, .int .i64 a.i, .int .i64 a.n, .int .u8 a.k.1, .int .i64 a.k.2.1, .string a.k.2.2, .int .u8 a.v.1, .int .i64 a.v.2.1, .string a.v.2.2] 45) = W1 at c9 hb9 ⊢
  obtain ⟨z3, hz3⟩ : ∃ z, z = W.heap.size := ⟨_, rfl⟩
  rw [← hz3] at c9 ⊢
  have HZ3 := Lib.hid hz3
  clear hz3
  have wb1 := HWD.out.wb.below hb9
  clear x0 x3
  have x0 := wb1.c0
  have x3 := wb1.c3
  have a0 := c9.c0
  have a1 := c9.c1
  have a2 := c9.c2
  go_quiet (fail)
  clear x0 x3 a0 a1 a2
  have hbq : Below W.heap.size W (W1.drewN nq) := hb9.trans ((below_drewN W1 nq).mono hb9.size)
  have C := Lib.hid (show C9 (W1.drewN nq) z3 a from c9.below (below_drewN W1 nq))
  have WB := Lib.hid (HWD.out.below hbq)
  have HBQ := Lib.hid hbq
  clear c9 wb1 hb9 hbq
  generalize W1.drewN nq = W2 at C WB HBQ ⊢
  have a0 := C.out.c0
  have a2 := C.out.c2
  go_upto_region 3 with fail
  rw [HI.out, HN.out]
  have hkd := HKD.out
  have x0 := WB.out.wb.c0
  have x3 := WB.out.wb.c3
  obtain ⟨r0, r1, r2, r3, f0, f1, f2, f3⟩ := row4 WB.out.all HE.out
  have hi1 : (0 : Int) ≤ (i : Int) := by omega
  have hi2 : (i : Int) < (E.length : Int) := by omega
  obtain ⟨As, cs, hes, _⟩ := (Rd.of_own (WB.out.row e (List.mem_of_getElem? HE.out))).form
  have HES := Lib.hid hes
  rw [hes] at r2
  have hzl2 := WB.out.wb.lt
  have hgl2 := (own_blk WB.out.all g rfl).2
  have hz3l := C.out.lt
  have c49 := C4.new W2 37 (.int .i64 (e.l.length : Int)) (.int .i64 (e.root : Int)) e.s (.int .u32 e.ow)
  have hb49 : Below W2.heap.size W2 (W2.alloc (.cells #[.int .i64 (e.l.length : Int), .int .i64 (e.root : Int), e.s, .int .u32 e.ow] 37)) := (Below.refl _ W2).alloc (Nat.le_refl _) _
  clear f0 f1 f2 f3 hes
  go_upto_region 21 with fail
  rw [← HES.out]
  generalize W2.alloc (.cells #[.int .i64 (e.l.length : Int), .int .i64 (e.root : Int), e.s, .int .u32 e.ow] 37) = W3 at c49 hb49 ⊢
  obtain ⟨z9, hz9⟩ : ∃ z, z = W2.heap.size := ⟨_, rfl⟩
  rw [← hz9] at c49 ⊢
  have HZ9 := Lib.hid (show W.heap.size ≤ z9 ∧ zw < z9 ∧ g < z9 ∧ z3 < z9 by have := HBQ.out.size; omega)
  clear hz9 x0 x3 a0 a2 r0 r1 r2 r3 hzl2 hgl2 hz3l
  have W3d := Lib.hid (WB.out.below hb49)
  have C3 := Lib.hid (C.out.below hb49)
  have B3 := Lib.hid (HBQ.out.trans (hb49.mono HBQ.out.size))
  have BX := Lib.hid c49
  have y3 := c49.c3
  clear c49 hb49 WB C HBQ
  have x3 := W3d.out.wb.c3
  by_cases how : e.ow = 0
  · by_cases h9 : 9 < E.length
    · have h9i : (9 : Int) < (E.length : Int) := by omega
      have how2 : (e.ow == 0) = true := by simpa using how
      have how3 : (e.ow != 0) = false := by simpa using how
      go_wp2_with fail
      go_ret
      exact ⟨rfl, g, cp, M, F, last, E, W3d.out, HA.out.2.2.2.1, HA.out.2.2.2.2, Nat.le_add_right _ _, Kp.of_below B3.out _, fun q hq => .inl hq⟩
    · have h9i : ¬ (9 : Int) < (E.length : Int) := by omega
      have how3 : (e.ow != 0) = false := by simpa using how
      go_upto_region 23 with fail
      clear how how3 x3 y3
      have l0 : ∀ W', (C5 W' zw 40 (ap b) (.pointer (some ⟨bh, 0, none⟩)) (.int .u64 (seed : Nat)) (.slice (some ⟨g, 0, none⟩) E.length cp) (.int .u32 last) ∧ C4 W' z9 37 (.int .i64 (e.l.length : Int)) (.int .i64 (e.root : Int)) e.s (.int .u32 e.ow)) → W'.cell? ⟨zw, 0, none⟩ = some (ap b) := fun W' h => h.1.c0
      have o1 : ∀ W', (C5 W' zw 40 (ap b) (.pointer (some ⟨bh, 0, none⟩)) (.int .u64 (seed : Nat)) (.slice (some ⟨g, 0, none⟩) E.length cp) (.int .u32 last) ∧ C4 W' z9 37 (.int .i64 (e.l.length : Int)) (.int .i64 (e.root : Int)) e.s (.int .u32 e.ow)) → W'.cell? ⟨z9, 1, none⟩ = some (.int .i64 (e.root : Int)) := fun W' h => h.2.c1
      refine wp_region_noPanic ?_
      have hd : Below W3.heap.size W3 W3.drew := (Below.refl _ W3).drew
      have wd := W3d.out.below hd
      have bx := BX.out.below hd
      refine wp_region_held_drew (S := fun W' => (C5 W' zw 40 (ap b) (.pointer (some ⟨bh, 0, none⟩)) (.int .u64 (seed : Nat)) (.slice (some ⟨g, 0, none⟩) E.length cp) (.int .u32 last) ∧ C4 W' z9 37 (.int .i64 (e.l.length : Int)) (.int .i64 (e.root : Int)) e.s (.int .u32 e.ow))) (by kernel_rfl) ⟨wd.wb, bx⟩ (fun hH => ?_)
      have WC := Lib.hid wd
      have HBC := Lib.hid (B3.out.trans (hd.mono B3.out.size))
      have CC := Lib.hid (C3.out.below hd)
      clear hd wd W3d B3 BX C3
      generalize W3.drew = Wc at WC HBC CC bx hH ⊢
      refine tkH ?_ 0 hH ?_ ?_; rotate_left
      · intro W' hS; go_simp; with_reducible rfl
      simp only [tkr]
      refine tkH ?_ 1 hH ?_ ?_; rotate_left
      · intro W' hS; go_simp; with_reducible rfl
      simp only [tkr]
      refine tkH ?_ 2 hH ?_ ?_; rotate_left
      · intro W' hS; go_simp; with_reducible rfl
      simp only [tkr]
      refine tkH ?_ 3 hH ?_ ?_; rotate_left
      · intro W' hS; go_simp; with_reducible rfl
      simp only [tkr]
      refine tkH ?_ 4 hH ?_ ?_; rotate_left
      · intro W' hS; go_simp; with_reducible rfl
      simp only [tkr]
      refine tkH ?_ 5 hH ?_ ?_; rotate_left
      · intro W' hS; go_simp; with_reducible rfl
      simp only [tkr]
      refine tkH ?_ 6 hH ?_ ?_; rotate_left
      · intro W' hS; go_simp; with_reducible rfl
      simp only [tkr]
      refine tkH ?_ 7 hH ?_ ?_; rotate_left
      · intro W' hS; go_simp; with_reducible rfl
      simp only [tkr]
      refine rdH 8 rfl (fun K hK => ?_)
      go_simp
      have hFz : ∀ q, F q → q < W.heap.size := fun q hq => HWD.out.ar.lt hq
      refine (keep1_bk e.root Wc WC.out.ar (by decide) (fun j => Nat.le_trans (holds_bound (E := E) (k := i) (by omega) j) (by decide)) (WC.out.lend HE.out)).mono ?_
      rintro x Wd ⟨⟨zz, rfl⟩, M3, hb3, hk3, hl3, hs3⟩
      have wb3 := WC.out.wb.kp hs3.kp WC.out.lo.2.2.2
      have bx3 := bx.kp hs3.kp (fun hf => by have := hFz _ hf; have := HZ9.out.1; omega)
      have c3 : C9 Wd z3 a := hs3.kp.at CC.out (fun hf => by have := hFz _ hf; have := HZ3.out; omega)
      have H3 := Lib.hid (And.intro hb3 (And.intro hk3 (And.intro hl3 hs3)))
      clear hb3 hk3 hl3 hs3 hFz
      simp only
      refine hK.out _ _ ?_ (fun hH => ?_)
      · exact ⟨wb3, bx3⟩
      clear hK K hH
      refine wpAnyH_done (by kernel_rfl) ?_ _
      refine NoPanic.normal ?_
      clear l0 o1 bx
      have a0 := c3.c0
      have C3 := Lib.hid c3
      clear c3
      have wb4 := wb3
      have bx4 := bx3
      have k34 : Kp (fun q => q = zw ∨ q = z9) Wd Wd := Kp.refl _ _
      clear wb3 bx3
      go_upto_region 27 with fail
      clear a0
      have A5 : Ar Wd b 65536 M3 (Fn F Wc Wd) ∧ Hs Wd bh seed ∧ Kp (fun q => F q ∨ q = zw) W Wd := by
        obtain ⟨hb3, hk3, hl3, hs3⟩ := H3.out
        have hFz : ∀ q, F q → q < W.heap.size := fun q hq => HWD.out.ar.lt hq
        have hzc := WC.out.wb.lt
        have hz9c : z9 < Wc.heap.size := by have := hH.2.lt; exact this
        have hno : ∀ q, q = zw ∨ q = z9 → ¬ Fn F Wc Wd q := fun q hq hf => by
          rcases hf with hf | hf
          · rcases hq with hq | hq
            · exact WC.out.lo.2.2.2 (hq ▸ hf)
            · have := hFz q hf; have := HZ9.out.1; omega
          · omega
        refine ⟨hs3.ar.kp k34 (fun q hf hq => hno q hq hf), (WC.out.hh.kp hs3.kp WC.out.nb).kp k34 (fun hq => ?_), ((Kp.of_below HBC.out _).trans hs3.kp (fun q h => .inl (.inl h))).trans k34 (fun q hq => hq.elim (fun h => .inl (.inr h)) (fun h => .inr (by have := HZ9.out.1; omega)))⟩
        rcases hq with hq | hq
        · exact WC.out.lo.2.2.1 hq.symm
        · have := HWD.out.hh.lt; have := HZ9.out.1; omega
      have hal5 : Wd.ownsRow w0.heap.size 37 4 (.slice (some ⟨g, 0, none⟩) E.length cp) E.length (E.flatMap cells4) := A5.2.2.own HWD.out.all (fun q hq hx => hx.elim (HWD.out.own q hq).1 (HWD.out.own q hq).2.2)
      have hzb : zw < Wd.heap.size ∧ z9 < Wd.heap.size := ⟨wb4.lt, bx4.lt⟩
      rw [HES.out] at bx4
      have l0 : ∀ W', (C5 W' zw 40 (ap b) (.pointer (some ⟨bh, 0, none⟩)) (.int .u64 (seed : Nat)) (.slice (some ⟨g, 0, none⟩) E.length cp) (.int .u32 last) ∧ C4 W' z9 37 (.int .i64 (e.l.length : Int)) (.int .i64 (e.root : Int)) (.slice As e.l.length cs) (.int .u32 e.ow)) → W'.cell? ⟨zw, 3, none⟩ = some (.slice (some ⟨g, 0, none⟩) E.length cp) := fun W' h => h.1.c3
      have o0 : ∀ W', (C5 W' zw 40 (ap b) (.pointer (some ⟨bh, 0, none⟩)) (.int .u64 (seed : Nat)) (.slice (some ⟨g, 0, none⟩) E.length cp) (.int .u32 last) ∧ C4 W' z9 37 (.int .i64 (e.l.length : Int)) (.int .i64 (e.root : Int)) (.slice As e.l.length cs) (.int .u32 e.ow)) → W'.cell? ⟨z9, 0, none⟩ = some (.int .i64 (e.l.length : Int)) := fun W' h => h.2.c0
      have o1 : ∀ W', (C5 W' zw 40 (ap b) (.pointer (some ⟨bh, 0, none⟩)) (.int .u64 (seed : Nat)) (.slice (some ⟨g, 0, none⟩) E.length cp) (.int .u32 last) ∧ C4 W' z9 37 (.int .i64 (e.l.length : Int)) (.int .i64 (e.root : Int)) (.slice As e.l.length cs) (.int .u32 e.ow)) → W'.cell? ⟨z9, 1, none⟩ = some (.int .i64 (e.root : Int)) := fun W' h => h.2.c1
      have o2 : ∀ W', (C5 W' zw 40 (ap b) (.pointer (some ⟨bh, 0, none⟩)) (.int .u64 (seed : Nat)) (.slice (some ⟨g, 0, none⟩) E.length cp) (.int .u32 last) ∧ C4 W' z9 37 (.int .i64 (e.l.length : Int)) (.int .i64 (e.root : Int)) (.slice As e.l.length cs) (.int .u32 e.ow)) → W'.cell? ⟨z9, 2, none⟩ = some (.slice As e.l.length cs) := fun W' h => h.2.c2
      have o3 : ∀ W', (C5 W' zw 40 (ap b) (.pointer (some ⟨bh, 0, none⟩)) (.int .u64 (seed : Nat)) (.slice (some ⟨g, 0, none⟩) E.length cp) (.int .u32 last) ∧ C4 W' z9 37 (.int .i64 (e.l.length : Int)) (.int .i64 (e.root : Int)) (.slice As e.l.length cs) (.int .u32 e.ow)) → W'.cell? ⟨z9, 3, none⟩ = some (.int .u32 e.ow) := fun W' h => h.2.c3
      refine (wpIn_wide (n := 0)).1 ?_
      refine anyX_region (S := fun W' => (C5 W' zw 40 (ap b) (.pointer (some ⟨bh, 0, none⟩)) (.int .u64 (seed : Nat)) (.slice (some ⟨g, 0, none⟩) E.length cp) (.int .u32 last) ∧ C4 W' z9 37 (.int .i64 (e.l.length : Int)) (.int .i64 (e.root : Int)) (.slice As e.l.length cs) (.int .u32 e.ow))) (X := [10]) (by kernel_rfl) ?_
      have hd : Below Wd.heap.size Wd Wd.drew := (Below.refl _ Wd).drew
      clear hH
      have hH := And.intro (wb4.below hd) (bx4.below hd)
      have b6 := hd
      clear hd wb4 bx4
      generalize Wd.drew = W6 at b6 hH ⊢
      refine AnyX.first (i := 0) (v := ?_) (by kernel_rfl) (by kernel_rfl) rfl (by kernel_rfl) (by kernel_rfl) (by kernel_rfl) (fun _ _ _ h => h) ⟨fun _ => rfl, Or.inl ⟨by rfl, ?_⟩⟩ hH ?_
      rotate_left
      · intro W' hS
        go_simp
        with_reducible rfl
      simp only [Act.put, List.setIfInBounds_toArray, List.set_cons_zero, List.set_cons_succ, List.getElem_toArray, List.getElem_cons_zero, List.getElem_cons_succ]
      refine AnyX.first (i := 1) (v := ?_) (by kernel_rfl) (by kernel_rfl) rfl (by kernel_rfl) (by kernel_rfl) (by kernel_rfl) (fun _ _ _ h => h) ⟨fun _ => rfl, Or.inl ⟨by rfl, ?_⟩⟩ hH ?_
      rotate_left
      · intro W' hS
        go_simp
        with_reducible rfl
      simp only [Act.put, List.setIfInBounds_toArray, List.set_cons_zero, List.set_cons_succ, List.getElem_toArray, List.getElem_cons_zero, List.getElem_cons_succ]
      refine AnyX.first (i := 2) (v := ?_) (by kernel_rfl) (by kernel_rfl) rfl (by kernel_rfl) (by kernel_rfl) (by kernel_rfl) (fun _ _ _ h => h) ⟨fun _ => rfl, Or.inl ⟨by rfl, ?_⟩⟩ hH ?_
      rotate_left
      · intro W' hS
        go_simp
        with_reducible rfl
      simp only [Act.put, List.setIfInBounds_toArray, List.set_cons_zero, List.set_cons_succ, List.getElem_toArray, List.getElem_cons_zero, List.getElem_cons_succ]
      refine AnyX.first (i := 3) (v := ?_) (by kernel_rfl) (by kernel_rfl) rfl (by kernel_rfl) (by kernel_rfl) (by kernel_rfl) (fun _ _ _ h => h) ⟨fun _ => rfl, Or.inl ⟨by rfl, ?_⟩⟩ hH ?_
      rotate_left
      · intro W' hS
        go_simp
        with_reducible rfl
      simp only [Act.put, List.setIfInBounds_toArray, List.set_cons_zero, List.set_cons_succ, List.getElem_toArray, List.getElem_cons_zero, List.getElem_cons_succ]
      refine AnyX.first (i := 4) (v := ?_) (by kernel_rfl) (by kernel_rfl) rfl (by kernel_rfl) (by kernel_rfl) (by kernel_rfl) (fun _ _ _ h => h) ⟨fun _ => rfl, Or.inl ⟨by rfl, ?_⟩⟩ hH ?_
      rotate_left
      · intro W' hS
        go_simp
        with_reducible rfl
      simp only [Act.put, List.setIfInBounds_toArray, List.set_cons_zero, List.set_cons_succ, List.getElem_toArray, List.getElem_cons_zero, List.getElem_cons_succ]
      refine AnyX.first (i := 5) (v := ?_) (by kernel_rfl) (by kernel_rfl) rfl (by kernel_rfl) (by kernel_rfl) (by kernel_rfl) (fun _ _ _ h => h) ⟨fun _ => rfl, Or.inl ⟨by rfl, ?_⟩⟩ hH ?_
      rotate_left
      · intro W' hS
        go_simp
        with_reducible rfl
      simp only [Act.put, List.setIfInBounds_toArray, List.set_cons_zero, List.set_cons_succ, List.getElem_toArray, List.getElem_cons_zero, List.getElem_cons_succ]
      refine AnyX.one (i := 6) (by kernel_rfl) rfl (fun K hK => ?_)
      replace hK := Lib.hid hK
      clear l0 o0 o1 o2 o3
      go_simp
      have b7 := b6.alloc b6.size (.cells #[.int .i64 (e.l.length : Int), .int .i64 (e.root : Int), .slice As e.l.length cs, .int .u32 e.ow] 37)
      have s7 := And.intro (hH.1.alloc (.cells #[.int .i64 (e.l.length : Int), .int .i64 (e.root : Int), .slice As e.l.length cs, .int .u32 e.ow] 37)) (hH.2.alloc (.cells #[.int .i64 (e.l.length : Int), .int .i64 (e.root : Int), .slice As e.l.length cs, .int .u32 e.ow] 37))
      have d7 := rd_four W6 (.int .i64 (e.l.length : Int)) (.int .i64 (e.root : Int)) (.slice As e.l.length cs) (.int .u32 e.ow) 37 _ rfl
      clear b6 hH
      refine hK.out _ _ ⟨.inr s7, ?_⟩
      clear hK K
      generalize W6.alloc (.cells #[.int .i64 (e.l.length : Int), .int .i64 (e.root : Int), .slice As e.l.length cs, .int .u32 e.ow] 37) = W7 at b7 s7 d7 ⊢
      refine AnyX.one (i := 7) (by kernel_rfl) rfl (fun K hK => ?_)
      replace hK := Lib.hid hK
      have hal7 := (Kp.of_below b7 (fun _ => False)).own hal5 (fun _ _ h => h)
      have hw07 : w0.heap.size ≤ W7.heap.size := Nat.le_trans HWD.out.bel.size (Nat.le_trans A5.2.2.size b7.size)
      refine stepX_append_rd (fun _ => trivial) rfl (.tmp 143) (.tmp 145) 38 rfl w0.heap.size 37 i1 _ 4 48 Tryz.underlying38 HI1.out hy0 hy1 hy2 rfl (by decide) (.slice (some ⟨g, 0, none⟩) E.length cp) E.length (E.flatMap cells4) rfl hal7 _ 1 [.int .i64 (e.l.length : Int), .int .i64 (e.root : Int), .slice As e.l.length cs, .int .u32 e.ow] rfl d7 rfl (by simp [Value.oneCell']) (by unfold maxLen; omega) (by omega) hw07 ?_
      intro v9 W9 hown hgr hat
      obtain ⟨g9, m9, rfl, _, _, _⟩ := own_at hown (j := 0) (List.getElem?_eq_getElem (by rw [List.length_append]; simp))
      have kg := Kp.of_grown hgr (F := fun q => g = q) (fun q e => .inl (Option.some.inj e))
      have wb9 := s7.1.kp kg (fun e => (HWD.out.own g rfl).2.2 e)
      have bx9 := s7.2.kp kg (fun e => by have := HZ9.out.2.2.1; omega)
      have wd9 := HWD.out.snoc (W1 := W7) (W2 := W9) (last' := last) (sa2 := .slice (some ⟨g9, 0, none⟩) (E.length + 1) m9) HE.out e.ow (A5.1.below b7) (A5.2.1.below b7) (fun q hq => hq.elim .inl (fun e => .inr (Nat.le_trans HBC.out.size e.1))) (A5.2.2.trans (Kp.of_below b7 (fun _ => False)) (fun _ h => h.elim)) s7.1 H3.out.1 H3.out.2.1 (by
        rw [List.flatMap_append]
        show W9.ownsRow _ _ 4 _ _ (E.flatMap cells4 ++ (cells4 ⟨e.root, e.l, e.s, e.ow⟩ ++ []))
        rw [List.append_nil]
        unfold cells4 at hown ⊢
        simp only [HES.out]
        exact hown) hgr hat
      have kp9 := (A5.2.2.trans (Kp.of_below b7 (fun _ => False)) (fun _ h => h.elim)).mono (G := fun q => F q ∨ q = bh ∨ q = g ∨ q = zw) (fun q h _ => h.elim .inl (fun e => .inr (.inr (.inr e)))) |>.trans kg (fun q e => .inl (.inr (.inr (.inl e.symm)))) |>.trans (Kp.one W9 zw 3 (.slice (some ⟨g9, 0, none⟩) (E.length + 1) m9)) (fun q e => .inl (.inr (.inr (.inr e))))
      have hel : (E ++ [(⟨e.root, e.l, e.s, e.ow⟩ : En)]).length = E.length + 1 := by simp
      have HFIN := Lib.hid (show Acted w0 W (W9.setCell ⟨zw, 3, none⟩ (.slice (some ⟨g9, 0, none⟩) (E.length + 1) m9)) b bh seed zw hs M F g E from
        ⟨g9, m9, M3, Fn F Wc Wd, last, _, by rw [hel]; exact wd9, by omega, by omega, by rw [H3.out.2.2.1]; omega, kp9, fun q hq => hq.elim .inl (fun e => .inr (Nat.le_trans HBC.out.size e.1))⟩)
      clear hown hgr hat kg wd9 kp9 hal7 hw07 d7 b7 s7 hel
      refine hK.out _ _ ⟨.inr ⟨wb9, bx9⟩, ?_⟩
      have hH := And.intro wb9 bx9
      clear hK K bx9
      refine AnyX.one (i := 8) (by kernel_rfl) rfl (fun K hK => ?_)
      replace hK := Lib.hid hK
      go_simp
      refine hK.out _ _ ⟨.inr hH, ?_⟩
      clear hK K
      refine AnyX.one (i := 9) (by kernel_rfl) rfl (fun K hK => ?_)
      replace hK := Lib.hid hK
      go_simp
      refine hK.out _ _ ⟨.inr hH, ?_⟩
      clear hK K
      refine AnyX.one (i := 10) (by kernel_rfl) rfl (fun K hK => ?_)
      replace hK := Lib.hid hK
      obtain ⟨u0, u1, u2, u3, u4, v0, v1, v2, v3, v4⟩ := wb9.all
      go_simp
      refine hK.out _ _ ⟨.inl (by simp), ?_⟩
      clear hK K u0 u1 u2 u3 u4 v0 v1 v2 v3 v4 wb9
      refine AnyX.done (by kernel_rfl) ?_ _
      clear hal5 hzb hH
      go_wp2_with fail
      go_ret
      exact ⟨rfl, HFIN.out⟩
  · have how2 : (e.ow == 0) = false := by simpa using how
    have how3 : (e.ow != 0) = true := by simpa using how
    go_wp2_with fail
    go_ret
    exact ⟨rfl, g, cp, M, F, last, E, W3d.out, HA.out.2.2.2.1, HA.out.2.2.2.2, Nat.le_add_right _ _, Kp.of_below B3.out _, fun q hq => .inl hq⟩
end
section
set_option maxHeartbeats 8000000 in
theorem lact5 {w0 W : World} {b bh seed zw g cp : Nat} {hs : Ky → Nat} {M : Cells} {F : Nat → Prop} {last : Int} {E : List En} (h : Wd w0 W b bh seed zw hs M F (.slice (some ⟨g, 0, none⟩) E.length cp) last E) (hhs : ∀ q, OkK q → hs q = hashN seed q.1 q.2.1 q.2.2) (a : Ac) (hf : a.Fits) (hk : OkK a.k) (hkd : a.kd.tmod 8 = 5) (hlv : live (65536 + 1) M + 640 ≤ 65536) (hE : 1 ≤ E.length ∧ E.length ≤ 10) :
    Calls Tryz.prog 17 #[.pointer (some ⟨zw, 0, none⟩), .agg #[.int .u8 a.kd, .int .i64 a.i, .int .i64 a.n, .int .u8 a.k.1, .int .i64 a.k.2.1, .string a.k.2.2, .int .u8 a.v.1, .int .i64 a.v.2.1, .string a.v.2.2]] W fun x W' => x = .returned (.bool true) ∧ Acted w0 W W' b bh seed zw hs M F g E := by
  obtain ⟨i1, hi1, hy0, hy1, hy2⟩ := info_parts oinfo
  have HI1 := Lib.hid hi1
  clear hi1
  have HWD := Lib.hid h
  have HHS := Lib.hid hhs
  have HA := Lib.hid (And.intro hf (And.intro hk (And.intro hlv hE)))
  have hzl := h.wb.lt
  have x0 := h.wb.c0
  have x3 := h.wb.c3
  have hE1 := hE.1
  have hE2 := hE.2
  obtain ⟨i, hi, hi0⟩ := act_at a.i E.length (by omega) (by omega)
  obtain ⟨n, hn, hn0⟩ := act_n a.n
  have HI := Lib.hid hi0
  have HN := Lib.hid hn0
  have HKD := Lib.hid hkd
  obtain ⟨e, he⟩ : ∃ e, E[i]? = some e := ⟨_, List.getElem?_eq_getElem hi⟩
  have HE := Lib.hid he
  clear h hhs hf hk hlv hE hkd hi0 hn0 he
  have hwl : IntKind.u64.wrap (E.length : Int) = (E.length : Int) := by rw [IntKind.wrap_u64]; omega
  have c9 := C9.new W a
  have hb9 : Below W.heap.size W (W.alloc (.cells #[.int .u8 a.kd, .int .i64 a.i, .int .i64 a.n, .int .u8 a.k.1, .int .i64 a.k.2.1, .string a.k.2.2, .int .u8 a.v.1, .int .i64 a.v.2.1, .string a.v.2.2] 45)) := (Below.refl _ W).alloc (Nat.le_refl _) _
  go_enter Tryz.func17, Tryz.ntmps17
  go_upto_region 1 with fail
  generalize W.alloc (.cells #[.int .u8 a.kd, .int .i64 a.i, .int .i64 a.n, .int .u8 a.k.1, .int .i64 a.k.2.1, .string a.k.2.2, .int .u8 a.v.1, .int .i64 a.v.2.1, .string a.v.2.2] 45) = W1 at c9 hb9 ⊢
  obtain ⟨z3, hz3⟩ : ∃ z, z = W.heap.size := ⟨_, rfl⟩
  rw [← hz3] at c9 ⊢
  have HZ3 := Lib.hid hz3
  clear hz3
  have wb1 := HWD.out.wb.below hb9
  clear x0 x3
  have x0 := wb1.c0
  have x3 := wb1.c3
  have a0 := c9.c0
  have a1 := c9.c1
  have a2 := c9.c2
  go_quiet (fail)
  clear x0 x3 a0 a1 a2
  have hbq : Below W.heap.size W (W1.drewN nq) := hb9.trans ((below_drewN W1 nq).mono hb9.size)
  have C := Lib.hid (show C9 (W1.drewN nq) z3 a from c9.below (below_drewN W1 nq))
  have WB := Lib.hid (HWD.out.below hbq)
  have HBQ := Lib.hid hbq
  clear c9 wb1 hb9 hbq
  generalize W1.drewN nq = W2 at C WB HBQ ⊢
  have a0 := C.out.c0
  have a2 := C.out.c2
  go_upto_region 3 with fail
  rw [HI.out, HN.out]
  have hkd := HKD.out
  have x0 := WB.out.wb.c0
  have x3 := WB.out.wb.c3
  obtain ⟨r0, r1, r2, r3, f0, f1, f2, f3⟩ := row4 WB.out.all HE.out
  have hi1 : (0 : Int) ≤ (i : Int) := by omega
  have hi2 : (i : Int) < (E.length : Int) := by omega
  obtain ⟨As, cs, hes, _⟩ := (Rd.of_own (WB.out.row e (List.mem_of_getElem? HE.out))).form
  have HES := Lib.hid hes
  rw [hes] at r2
  have hzl2 := WB.out.wb.lt
  have hgl2 := (own_blk WB.out.all g rfl).2
  have hz3l := C.out.lt
  have c49 := C4.new W2 37 (.int .i64 (e.l.length : Int)) (.int .i64 (e.root : Int)) e.s (.int .u32 e.ow)
  have hb49 : Below W2.heap.size W2 (W2.alloc (.cells #[.int .i64 (e.l.length : Int), .int .i64 (e.root : Int), e.s, .int .u32 e.ow] 37)) := (Below.refl _ W2).alloc (Nat.le_refl _) _
  clear f0 f1 f2 f3 hes
  go_upto_region 21 with fail
  rw [← HES.out]
  generalize W2.alloc (.cells #[.int .i64 (e.l.length : Int), .int .i64 (e.root : Int), e.s, .int .u32 e.ow] 37) = W3 at c49 hb49 ⊢
  obtain ⟨z9, hz9⟩ : ∃ z, z = W2.heap.size := ⟨_, rfl⟩
  rw [← hz9] at c49 ⊢
  have HZ9 := Lib.hid (show W.heap.size ≤ z9 ∧ zw < z9 ∧ g < z9 ∧ z3 < z9 by have := HBQ.out.size; omega)
  clear hz9 x0 x3 a0 a2 r0 r1 r2 r3 hzl2 hgl2 hz3l
  have W3d := Lib.hid (WB.out.below hb49)
  have C3 := Lib.hid (C.out.below hb49)
  have B3 := Lib.hid (HBQ.out.trans (hb49.mono HBQ.out.size))
  have BX := Lib.hid c49
  have y3 := c49.c3
  clear c49 hb49 WB C HBQ
  have x3 := W3d.out.wb.c3
  by_cases how : e.ow = 0
  · by_cases h9 : 9 < E.length
    · have h9i : (9 : Int) < (E.length : Int) := by omega
      have how2 : (e.ow == 0) = true := by simpa using how
      have how3 : (e.ow != 0) = false := by simpa using how
      go_wp2_with fail
      go_ret
      exact ⟨rfl, g, cp, M, F, last, E, W3d.out, HA.out.2.2.2.1, HA.out.2.2.2.2, Nat.le_add_right _ _, Kp.of_below B3.out _, fun q hq => .inl hq⟩
    · have h9i : ¬ (9 : Int) < (E.length : Int) := by omega
      have how3 : (e.ow != 0) = false := by simpa using how
      go_upto_region 23 with fail
      clear how how3 x3 y3
      have l0 : ∀ W', (C5 W' zw 40 (ap b) (.pointer (some ⟨bh, 0, none⟩)) (.int .u64 (seed : Nat)) (.slice (some ⟨g, 0, none⟩) E.length cp) (.int .u32 last) ∧ C4 W' z9 37 (.int .i64 (e.l.length : Int)) (.int .i64 (e.root : Int)) e.s (.int .u32 e.ow)) → W'.cell? ⟨zw, 0, none⟩ = some (ap b) := fun W' h => h.1.c0
      have o1 : ∀ W', (C5 W' zw 40 (ap b) (.pointer (some ⟨bh, 0, none⟩)) (.int .u64 (seed : Nat)) (.slice (some ⟨g, 0, none⟩) E.length cp) (.int .u32 last) ∧ C4 W' z9 37 (.int .i64 (e.l.length : Int)) (.int .i64 (e.root : Int)) e.s (.int .u32 e.ow)) → W'.cell? ⟨z9, 1, none⟩ = some (.int .i64 (e.root : Int)) := fun W' h => h.2.c1
      refine wp_region_noPanic ?_
      have hd : Below W3.heap.size W3 W3.drew := (Below.refl _ W3).drew
      have wd := W3d.out.below hd
      have bx := BX.out.below hd
      refine wp_region_held_drew (S := fun W' => (C5 W' zw 40 (ap b) (.pointer (some ⟨bh, 0, none⟩)) (.int .u64 (seed : Nat)) (.slice (some ⟨g, 0, none⟩) E.length cp) (.int .u32 last) ∧ C4 W' z9 37 (.int .i64 (e.l.length : Int)) (.int .i64 (e.root : Int)) e.s (.int .u32 e.ow))) (by kernel_rfl) ⟨wd.wb, bx⟩ (fun hH => ?_)
      have WC := Lib.hid wd
      have HBC := Lib.hid (B3.out.trans (hd.mono B3.out.size))
      have CC := Lib.hid (C3.out.below hd)
      clear hd wd W3d B3 BX C3
      generalize W3.drew = Wc at WC HBC CC bx hH ⊢
      refine tkH ?_ 0 hH ?_ ?_; rotate_left
      · intro W' hS; go_simp; with_reducible rfl
      simp only [tkr]
      refine tkH ?_ 1 hH ?_ ?_; rotate_left
      · intro W' hS; go_simp; with_reducible rfl
      simp only [tkr]
      refine tkH ?_ 2 hH ?_ ?_; rotate_left
      · intro W' hS; go_simp; with_reducible rfl
      simp only [tkr]
      refine tkH ?_ 3 hH ?_ ?_; rotate_left
      · intro W' hS; go_simp; with_reducible rfl
      simp only [tkr]
      refine tkH ?_ 4 hH ?_ ?_; rotate_left
      · intro W' hS; go_simp; with_reducible rfl
      simp only [tkr]
      refine tkH ?_ 5 hH ?_ ?_; rotate_left
      · intro W' hS; go_simp; with_reducible rfl
      simp only [tkr]
      refine tkH ?_ 6 hH ?_ ?_; rotate_left
      · intro W' hS; go_simp; with_reducible rfl
      simp only [tkr]
      refine tkH ?_ 7 hH ?_ ?_; rotate_left
      · intro W' hS; go_simp; with_reducible rfl
      simp only [tkr]
      refine rdH 8 rfl (fun K hK => ?_)
      go_simp
      have hFz : ∀ q, F q → q < W.heap.size := fun q hq => HWD.out.ar.lt hq
      refine (keep1_bk e.root Wc WC.out.ar (by decide) (fun j => Nat.le_trans (holds_bound (E := E) (k := i) (by omega) j) (by decide)) (WC.out.lend HE.out)).mono ?_
      rintro x Wd ⟨⟨zz, rfl⟩, M3, hb3, hk3, hl3, hs3⟩
      have wb3 := WC.out.wb.kp hs3.kp WC.out.lo.2.2.2
      have bx3 := bx.kp hs3.kp (fun hf => by have := hFz _ hf; have := HZ9.out.1; omega)
      have c3 : C9 Wd z3 a := hs3.kp.at CC.out (fun hf => by have := hFz _ hf; have := HZ3.out; omega)
      have H3 := Lib.hid (And.intro hb3 (And.intro hk3 (And.intro hl3 hs3)))
      clear hb3 hk3 hl3 hs3 hFz
      simp only
      refine hK.out _ _ ?_ (fun hH => ?_)
      · exact ⟨wb3, bx3⟩
      clear hK K hH
      refine wpAnyH_done (by kernel_rfl) ?_ _
      refine NoPanic.normal ?_
      clear l0 o1 bx
      have a0 := c3.c0
      have C3 := Lib.hid c3
      clear c3
      have ow' : ∃ ow' : Int, ow' = (last + 1) % 4294967296 := ⟨_, rfl⟩
      obtain ⟨x0', x1', x2', x3', x4', v0', v1', v2', v3', v4'⟩ := wb3.all
      obtain ⟨p0, p1, p2, p3, q0, q1, q2, q3⟩ := bx3.all
      have hne : ¬ z9 = zw := by have := HZ9.out.2.1; omega
      have hne2 : ¬ zw = z9 := fun e => hne e.symm
      have wb4 := ((wb3.set4 (.int .u32 ((last + 1) % 4294967296))).kp (Kp.one _ z9 3 (.int .u32 ((last + 1) % 4294967296))) hne2)
      have bx4 := ((bx3.kp (Kp.one Wd zw 4 (.int .u32 ((last + 1) % 4294967296))) hne).set3 (.int .u32 ((last + 1) % 4294967296)))
      have k34 : Kp (fun q => q = zw ∨ q = z9) Wd ((Wd.setCell ⟨zw, 4, none⟩ (.int .u32 ((last + 1) % 4294967296))).setCell ⟨z9, 3, none⟩ (.int .u32 ((last + 1) % 4294967296))) := ((Kp.refl (fun q => q = zw ∨ q = z9) Wd).setCell (.inl (.inl rfl)) _).setCell (.inl (.inr rfl)) _
      clear ow' x0' x1' x2' v0' v1' v2' v3' p0 p1 p2 q0 q1 q2
      go_upto_region 27 with fail
      clear x3' x4' v4' p3 q3
      generalize (Wd.setCell ⟨zw, 4, none⟩ (.int .u32 ((last + 1) % 4294967296))).setCell ⟨z9, 3, none⟩ (.int .u32 ((last + 1) % 4294967296)) = W5 at wb4 bx4 k34 ⊢
      generalize (last + 1) % 4294967296 = la at wb4 bx4 ⊢
      clear a0
      have A5 : Ar W5 b 65536 M3 (Fn F Wc Wd) ∧ Hs W5 bh seed ∧ Kp (fun q => F q ∨ q = zw) W W5 := by
        obtain ⟨hb3, hk3, hl3, hs3⟩ := H3.out
        have hFz : ∀ q, F q → q < W.heap.size := fun q hq => HWD.out.ar.lt hq
        have hzc := WC.out.wb.lt
        have hz9c : z9 < Wc.heap.size := by have := hH.2.lt; exact this
        have hno : ∀ q, q = zw ∨ q = z9 → ¬ Fn F Wc Wd q := fun q hq hf => by
          rcases hf with hf | hf
          · rcases hq with hq | hq
            · exact WC.out.lo.2.2.2 (hq ▸ hf)
            · have := hFz q hf; have := HZ9.out.1; omega
          · omega
        refine ⟨hs3.ar.kp k34 (fun q hf hq => hno q hq hf), (WC.out.hh.kp hs3.kp WC.out.nb).kp k34 (fun hq => ?_), ((Kp.of_below HBC.out _).trans hs3.kp (fun q h => .inl (.inl h))).trans k34 (fun q hq => hq.elim (fun h => .inl (.inr h)) (fun h => .inr (by have := HZ9.out.1; omega)))⟩
        rcases hq with hq | hq
        · exact WC.out.lo.2.2.1 hq.symm
        · have := HWD.out.hh.lt; have := HZ9.out.1; omega
      have hal5 : W5.ownsRow w0.heap.size 37 4 (.slice (some ⟨g, 0, none⟩) E.length cp) E.length (E.flatMap cells4) := A5.2.2.own HWD.out.all (fun q hq hx => hx.elim (HWD.out.own q hq).1 (HWD.out.own q hq).2.2)
      have hzb : zw < W5.heap.size ∧ z9 < W5.heap.size := ⟨wb4.lt, bx4.lt⟩
      rw [HES.out] at bx4
      have l0 : ∀ W', (C5 W' zw 40 (ap b) (.pointer (some ⟨bh, 0, none⟩)) (.int .u64 (seed : Nat)) (.slice (some ⟨g, 0, none⟩) E.length cp) (.int .u32 la) ∧ C4 W' z9 37 (.int .i64 (e.l.length : Int)) (.int .i64 (e.root : Int)) (.slice As e.l.length cs) (.int .u32 la)) → W'.cell? ⟨zw, 3, none⟩ = some (.slice (some ⟨g, 0, none⟩) E.length cp) := fun W' h => h.1.c3
      have o0 : ∀ W', (C5 W' zw 40 (ap b) (.pointer (some ⟨bh, 0, none⟩)) (.int .u64 (seed : Nat)) (.slice (some ⟨g, 0, none⟩) E.length cp) (.int .u32 la) ∧ C4 W' z9 37 (.int .i64 (e.l.length : Int)) (.int .i64 (e.root : Int)) (.slice As e.l.length cs) (.int .u32 la)) → W'.cell? ⟨z9, 0, none⟩ = some (.int .i64 (e.l.length : Int)) := fun W' h => h.2.c0
      have o1 : ∀ W', (C5 W' zw 40 (ap b) (.pointer (some ⟨bh, 0, none⟩)) (.int .u64 (seed : Nat)) (.slice (some ⟨g, 0, none⟩) E.length cp) (.int .u32 la) ∧ C4 W' z9 37 (.int .i64 (e.l.length : Int)) (.int .i64 (e.root : Int)) (.slice As e.l.length cs) (.int .u32 la)) → W'.cell? ⟨z9, 1, none⟩ = some (.int .i64 (e.root : Int)) := fun W' h => h.2.c1
      have o2 : ∀ W', (C5 W' zw 40 (ap b) (.pointer (some ⟨bh, 0, none⟩)) (.int .u64 (seed : Nat)) (.slice (some ⟨g, 0, none⟩) E.length cp) (.int .u32 la) ∧ C4 W' z9 37 (.int .i64 (e.l.length : Int)) (.int .i64 (e.root : Int)) (.slice As e.l.length cs) (.int .u32 la)) → W'.cell? ⟨z9, 2, none⟩ = some (.slice As e.l.length cs) := fun W' h => h.2.c2
      have o3 : ∀ W', (C5 W' zw 40 (ap b) (.pointer (some ⟨bh, 0, none⟩)) (.int .u64 (seed : Nat)) (.slice (some ⟨g, 0, none⟩) E.length cp) (.int .u32 la) ∧ C4 W' z9 37 (.int .i64 (e.l.length : Int)) (.int .i64 (e.root : Int)) (.slice As e.l.length cs) (.int .u32 la)) → W'.cell? ⟨z9, 3, none⟩ = some (.int .u32 la) := fun W' h => h.2.c3
      refine (wpIn_wide (n := 0)).1 ?_
      refine anyX_region (S := fun W' => (C5 W' zw 40 (ap b) (.pointer (some ⟨bh, 0, none⟩)) (.int .u64 (seed : Nat)) (.slice (some ⟨g, 0, none⟩) E.length cp) (.int .u32 la) ∧ C4 W' z9 37 (.int .i64 (e.l.length : Int)) (.int .i64 (e.root : Int)) (.slice As e.l.length cs) (.int .u32 la))) (X := [10]) (by kernel_rfl) ?_
      have hd : Below W5.heap.size W5 W5.drew := (Below.refl _ W5).drew
      clear hH
      have hH := And.intro (wb4.below hd) (bx4.below hd)
      have b6 := hd
      clear hd wb4 bx4
      generalize W5.drew = W6 at b6 hH ⊢
      refine AnyX.first (i := 0) (v := ?_) (by kernel_rfl) (by kernel_rfl) rfl (by kernel_rfl) (by kernel_rfl) (by kernel_rfl) (fun _ _ _ h => h) ⟨fun _ => rfl, Or.inl ⟨by rfl, ?_⟩⟩ hH ?_
      rotate_left
      · intro W' hS
        go_simp
        with_reducible rfl
      simp only [Act.put, List.setIfInBounds_toArray, List.set_cons_zero, List.set_cons_succ, List.getElem_toArray, List.getElem_cons_zero, List.getElem_cons_succ]
      refine AnyX.first (i := 1) (v := ?_) (by kernel_rfl) (by kernel_rfl) rfl (by kernel_rfl) (by kernel_rfl) (by kernel_rfl) (fun _ _ _ h => h) ⟨fun _ => rfl, Or.inl ⟨by rfl, ?_⟩⟩ hH ?_
      rotate_left
      · intro W' hS
        go_simp
        with_reducible rfl
      simp only [Act.put, List.setIfInBounds_toArray, List.set_cons_zero, List.set_cons_succ, List.getElem_toArray, List.getElem_cons_zero, List.getElem_cons_succ]
      refine AnyX.first (i := 2) (v := ?_) (by kernel_rfl) (by kernel_rfl) rfl (by kernel_rfl) (by kernel_rfl) (by kernel_rfl) (fun _ _ _ h => h) ⟨fun _ => rfl, Or.inl ⟨by rfl, ?_⟩⟩ hH ?_
      rotate_left
      · intro W' hS
        go_simp
        with_reducible rfl
      simp only [Act.put, List.setIfInBounds_toArray, List.set_cons_zero, List.set_cons_succ, List.getElem_toArray, List.getElem_cons_zero, List.getElem_cons_succ]
      refine AnyX.first (i := 3) (v := ?_) (by kernel_rfl) (by kernel_rfl) rfl (by kernel_rfl) (by kernel_rfl) (by kernel_rfl) (fun _ _ _ h => h) ⟨fun _ => rfl, Or.inl ⟨by rfl, ?_⟩⟩ hH ?_
      rotate_left
      · intro W' hS
        go_simp
        with_reducible rfl
      simp only [Act.put, List.setIfInBounds_toArray, List.set_cons_zero, List.set_cons_succ, List.getElem_toArray, List.getElem_cons_zero, List.getElem_cons_succ]
      refine AnyX.first (i := 4) (v := ?_) (by kernel_rfl) (by kernel_rfl) rfl (by kernel_rfl) (by kernel_rfl) (by kernel_rfl) (fun _ _ _ h => h) ⟨fun _ => rfl, Or.inl ⟨by rfl, ?_⟩⟩ hH ?_
      rotate_left
      · intro W' hS
        go_simp
        with_reducible rfl
      simp only [Act.put, List.setIfInBounds_toArray, List.set_cons_zero, List.set_cons_succ, List.getElem_toArray, List.getElem_cons_zero, List.getElem_cons_succ]
      refine AnyX.first (i := 5) (v := ?_) (by kernel_rfl) (by kernel_rfl) rfl (by kernel_rfl) (by kernel_rfl) (by kernel_rfl) (fun _ _ _ h => h) ⟨fun _ => rfl, Or.inl ⟨by rfl, ?_⟩⟩ hH ?_
      rotate_left
      · intro W' hS
        go_simp
        with_reducible rfl
      simp only [Act.put, List.setIfInBounds_toArray, List.set_cons_zero, List.set_cons_succ, List.getElem_toArray, List.getElem_cons_zero, List.getElem_cons_succ]
      refine AnyX.one (i := 6) (by kernel_rfl) rfl (fun K hK => ?_)
      replace hK := Lib.hid hK
      clear l0 o0 o1 o2 o3
      go_simp
      have b7 := b6.alloc b6.size (.cells #[.int .i64 (e.l.length : Int), .int .i64 (e.root : Int), .slice As e.l.length cs, .int .u32 la] 37)
      have s7 := And.intro (hH.1.alloc (.cells #[.int .i64 (e.l.length : Int), .int .i64 (e.root : Int), .slice As e.l.length cs, .int .u32 la] 37)) (hH.2.alloc (.cells #[.int .i64 (e.l.length : Int), .int .i64 (e.root : Int), .slice As e.l.length cs, .int .u32 la] 37))
      have d7 := rd_four W6 (.int .i64 (e.l.length : Int)) (.int .i64 (e.root : Int)) (.slice As e.l.length cs) (.int .u32 la) 37 _ rfl
      clear b6 hH
      refine hK.out _ _ ⟨.inr s7, ?_⟩
      clear hK K
      generalize W6.alloc (.cells #[.int .i64 (e.l.length : Int), .int .i64 (e.root : Int), .slice As e.l.length cs, .int .u32 la] 37) = W7 at b7 s7 d7 ⊢
      refine AnyX.one (i := 7) (by kernel_rfl) rfl (fun K hK => ?_)
      replace hK := Lib.hid hK
      have hal7 := (Kp.of_below b7 (fun _ => False)).own hal5 (fun _ _ h => h)
      have hw07 : w0.heap.size ≤ W7.heap.size := Nat.le_trans HWD.out.bel.size (Nat.le_trans A5.2.2.size b7.size)
      refine stepX_append_rd (fun _ => trivial) rfl (.tmp 143) (.tmp 145) 38 rfl w0.heap.size 37 i1 _ 4 48 Tryz.underlying38 HI1.out hy0 hy1 hy2 rfl (by decide) (.slice (some ⟨g, 0, none⟩) E.length cp) E.length (E.flatMap cells4) rfl hal7 _ 1 [.int .i64 (e.l.length : Int), .int .i64 (e.root : Int), .slice As e.l.length cs, .int .u32 la] rfl d7 rfl (by simp [Value.oneCell']) (by unfold maxLen; omega) (by omega) hw07 ?_
      intro v9 W9 hown hgr hat
      obtain ⟨g9, m9, rfl, _, _, _⟩ := own_at hown (j := 0) (List.getElem?_eq_getElem (by rw [List.length_append]; simp))
      have kg := Kp.of_grown hgr (F := fun q => g = q) (fun q e => .inl (Option.some.inj e))
      have wb9 := s7.1.kp kg (fun e => (HWD.out.own g rfl).2.2 e)
      have bx9 := s7.2.kp kg (fun e => by have := HZ9.out.2.2.1; omega)
      have wd9 := HWD.out.snoc (W1 := W7) (W2 := W9) (last' := la) (sa2 := .slice (some ⟨g9, 0, none⟩) (E.length + 1) m9) HE.out la (A5.1.below b7) (A5.2.1.below b7) (fun q hq => hq.elim .inl (fun e => .inr (Nat.le_trans HBC.out.size e.1))) (A5.2.2.trans (Kp.of_below b7 (fun _ => False)) (fun _ h => h.elim)) s7.1 H3.out.1 H3.out.2.1 (by
        rw [List.flatMap_append]
        show W9.ownsRow _ _ 4 _ _ (E.flatMap cells4 ++ (cells4 ⟨e.root, e.l, e.s, la⟩ ++ []))
        rw [List.append_nil]
        unfold cells4 at hown ⊢
        simp only [HES.out]
        exact hown) hgr hat
      have kp9 := (A5.2.2.trans (Kp.of_below b7 (fun _ => False)) (fun _ h => h.elim)).mono (G := fun q => F q ∨ q = bh ∨ q = g ∨ q = zw) (fun q h _ => h.elim .inl (fun e => .inr (.inr (.inr e)))) |>.trans kg (fun q e => .inl (.inr (.inr (.inl e.symm)))) |>.trans (Kp.one W9 zw 3 (.slice (some ⟨g9, 0, none⟩) (E.length + 1) m9)) (fun q e => .inl (.inr (.inr (.inr e))))
      have hel : (E ++ [(⟨e.root, e.l, e.s, la⟩ : En)]).length = E.length + 1 := by simp
      have HFIN := Lib.hid (show Acted w0 W (W9.setCell ⟨zw, 3, none⟩ (.slice (some ⟨g9, 0, none⟩) (E.length + 1) m9)) b bh seed zw hs M F g E from
        ⟨g9, m9, M3, Fn F Wc Wd, la, _, by rw [hel]; exact wd9, by omega, by omega, by rw [H3.out.2.2.1]; omega, kp9, fun q hq => hq.elim .inl (fun e => .inr (Nat.le_trans HBC.out.size e.1))⟩)
      clear hown hgr hat kg wd9 kp9 hal7 hw07 d7 b7 s7 hel
      refine hK.out _ _ ⟨.inr ⟨wb9, bx9⟩, ?_⟩
      have hH := And.intro wb9 bx9
      clear hK K bx9
      refine AnyX.one (i := 8) (by kernel_rfl) rfl (fun K hK => ?_)
      replace hK := Lib.hid hK
      go_simp
      refine hK.out _ _ ⟨.inr hH, ?_⟩
      clear hK K
      refine AnyX.one (i := 9) (by kernel_rfl) rfl (fun K hK => ?_)
      replace hK := Lib.hid hK
      go_simp
      refine hK.out _ _ ⟨.inr hH, ?_⟩
      clear hK K
      refine AnyX.one (i := 10) (by kernel_rfl) rfl (fun K hK => ?_)
      replace hK := Lib.hid hK
      obtain ⟨u0, u1, u2, u3, u4, v0, v1, v2, v3, v4⟩ := wb9.all
      go_simp
      refine hK.out _ _ ⟨.inl (by simp), ?_⟩
      clear hK K u0 u1 u2 u3 u4 v0 v1 v2 v3 v4 wb9
      refine AnyX.done (by kernel_rfl) ?_ _
      clear hal5 hzb hH
      go_wp2_with fail
      go_ret
      exact ⟨rfl, HFIN.out⟩
  · have how2 : (e.ow == 0) = false := by simpa using how
    have how3 : (e.ow != 0) = true := by simpa using how
    go_wp2_with fail
    go_ret
    exact ⟨rfl, g, cp, M, F, last, E, W3d.out, HA.out.2.2.2.1, HA.out.2.2.2.2, Nat.le_add_right _ _, Kp.of_below B3.out _, fun q hq => .inl hq⟩
end
end Go.Proofs.YthcpjehkjhpjfaaGreat

namespace Go.Proofs.YthcpjehkjhpjfaaGreat
set_option maxRecDepth 100000
open Go.RowKit
theorem Ar.meet {w : World} {b most most' : Nat} {M M' : Cells} {F F' : Nat → Prop} (h : Ar w b most M F) (h' : Ar w b most' M' F') : Ar w b most M (fun q => F q ∧ F' q) := by
  obtain ⟨n, vc, vf, fr, H, h⟩ := h
  obtain ⟨n', vc', vf', fr', H', h'⟩ := h'
  have er : vc = vc' ∧ vf = vf' := by
    have e := h.row.symm.trans h'.row
    simp only [Option.some.injEq, Obj.cells.injEq, Array.mk.injEq, List.cons.injEq] at e
    exact ⟨e.1.2.2.1, e.1.2.2.2.1⟩
  obtain ⟨rfl, rfl⟩ := er
  refine ⟨n, vc, vf, fr, H, h.m1, h.m2, h.row, h.cs, h.fs, fun j c r e => ?_, h.inj, h.nd, h.fi, h.len, h.le, ⟨h.fb, h'.fb⟩, fun k hk => ⟨h.fc k hk, h'.fc k hk⟩, fun k hk => ⟨h.ff k hk, h'.ff k hk⟩, fun k hk => h.lt k hk.1⟩
  obtain ⟨i1, i2, i3, v, k, h1, h2, h3, h4, h5, h6, h7, h8⟩ := h.cel j c r e
  have hj : (places M H n)[j - 1]? = some (.pointer (some ⟨H j, 0, none⟩)) := by
    rw [places_at (by omega), show j - 1 + 1 = j by omega, e]
    rfl
  obtain ⟨g, cp, ev, _, kc, _⟩ := own_at h.cs hj
  have hcs := h'.cs
  have hn' : n' = n := by
    rcases hcs.2 with ⟨e2, _⟩ | ⟨g2, cp2, cur2, e2, _⟩
    · rw [ev] at e2; cases e2
    · rw [ev] at e2
      injection e2 with _ e3 _
      exact e3.symm
  have hj' : (places M' H' n')[j - 1]? = some (ptrOf (M' j) (H' j)) := by
    rw [places_at (by omega), show j - 1 + 1 = j by omega]
  obtain ⟨g2, cp2, ev2, _, kc2, _⟩ := own_at hcs hj'
  rw [ev] at ev2
  simp only [Value.slice.injEq, Option.some.injEq, Addr.mk.injEq, and_true] at ev2
  obtain ⟨rfl, _, _⟩ := ev2
  rw [kc] at kc2
  cases e' : M' j with
  | none => rw [e'] at kc2; simp [ptrOf] at kc2
  | some y =>
    rw [e'] at kc2
    simp only [ptrOf, Option.some.injEq, Value.pointer.injEq, Addr.mk.injEq, and_true] at kc2
    obtain ⟨c', r'⟩ := y
    obtain ⟨_, _, _, v', k', h1', _, _, h4', h5', h6', _, _⟩ := h'.cel j c' r' e'
    rw [← kc2] at h1' h4'
    have e2 := h1.symm.trans h1'
    simp only [Option.some.injEq, Obj.cells.injEq, Array.mk.injEq, List.cons.injEq] at e2
    obtain ⟨rfl, rfl⟩ : v = v' ∧ k = k' := ⟨e2.1.2.2.2.1, e2.1.2.2.2.2.1⟩
    exact ⟨i1, i2, i3, v, k, h1, h2, h3, ⟨h4, h4'⟩, fun g hg => ⟨h5 g hg, h5' g hg⟩, fun g hg => ⟨⟨(h6 g hg).1, (h6' g hg).1⟩, (h6 g hg).2⟩, h7, h8⟩
theorem Kv.of_kp {n0 b most most' root : Nat} {M0 M : Cells} {F G : Nat → Prop} {A B : World} (h : Ar A b most' M F) (hk : Kp G A B) (hF : ∀ q, G q → ¬ F q) (hG : ∀ q cur t, G q → n0 ≤ q → A.heap[q]? = some (.cells cur t (0, 0)) → ¬ Vt t) : Kv n0 b most M0 root A B := by
  have ar : ∀ {M1 : Cells} {F1 : Nat → Prop}, Ar A b most M1 F1 → Ar B b most M1 (fun q => F1 q ∧ F q) := fun h1 => (h1.meet h).kp hk (fun q hq hg => hF q hg hq.2)
  refine ⟨fun ⟨M1, F1, h1, h2⟩ => ⟨M1, _, ar h1, h2⟩, fun q cur t hq ht e ⟨M1, F1, h1, h2⟩ => ⟨?_, M1, _, ar h1, fun hf => h2 hf.1⟩⟩
  rw [hk.block q (Array.getElem?_eq_some_iff.1 e).1 (fun hg => hG q cur t hg hq e ht)]
  exact e
end Go.Proofs.YthcpjehkjhpjfaaGreat

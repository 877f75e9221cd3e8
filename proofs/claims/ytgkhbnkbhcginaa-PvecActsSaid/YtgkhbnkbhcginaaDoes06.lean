/- Layer 6's law: the functions that it hands to change. -/
import Derived.Test.YtgkhbnkbhcginaaChange06
import Derived.Deep.RegionHeld3
namespace Go.Proofs.Ytgkhbnkbhcginaa
open Go.RowKit

section
variable {b : Nat} {M : Cells} {F : Nat → Prop} {P : Nat → Nat}
set_option maxRecDepth 100000 in
set_option maxHeartbeats 1600000 in
theorem does_pop (za : Nat) (e : En) (want : Int) (w : World) (hA : Ar w b 65536 M F) (ha : w.cell? ⟨za, 0, none⟩ = some (ap b)) (hP : ∀ j, P j ≤ 576460752303423488) (hb : Bk (65536 + 1) M [] P [e.v.root, e.v.tail]) (hv : VecIs M e.v e.l) (hroom : live (65536 + 1) M + 2 ≤ 65536) (hw : want = if e.l = [] then 3 else 0) :
    Does w b M F P e e.l.dropLast want 17 #[.pointer (some ⟨za, 0, none⟩)] := by
  intro W hbW
  obtain ⟨v, l, s, ow⟩ := e
  have hl : za < w.heap.size := World.block_lt_of_cell? w _ ha
  have e1 : (W.alloc (.cells #[.int .i64 (v.n : Int), .int .i64 (v.root : Int), .int .i64 (v.tail : Int), s, .int .u32 ow] 34)).heap.size = W.heap.size + 1 := by simp
  have hb2 : Below W.heap.size W ((W.alloc (.cells #[.int .i64 (v.n : Int), .int .i64 (v.root : Int), .int .i64 (v.tail : Int), s, .int .u32 ow] 34)).alloc (.cells #[.int .i64 0, .int .i64 0, .int .i64 0] 30)) := ((Below.refl _ W).alloc (Nat.le_refl _) _).alloc (by simp) _
  have q2 := (C5.new W 34 (.int .i64 (v.n : Int)) (.int .i64 (v.root : Int)) (.int .i64 (v.tail : Int)) s (.int .u32 ow)).alloc (.cells #[.int .i64 0, .int .i64 0, .int .i64 0] 30)
  have q3 := C3.new (W.alloc (.cells #[.int .i64 (v.n : Int), .int .i64 (v.root : Int), .int .i64 (v.tail : Int), s, .int .u32 ow] 34)) 30 (.int .i64 0) (.int .i64 0) (.int .i64 0)
  rw [e1] at q3
  have ha2 := (hb2.cell (p := ⟨za, 0, none⟩) (Nat.lt_of_lt_of_le hl hbW.size)).trans ((hbW.cell (p := ⟨za, 0, none⟩) hl).trans ha)
  have RN2 := Lib.hid (Rn.below (hA.below hbW) hb2)
  have HF := Lib.hid (show ∀ q, F q → q < W.heap.size from fun q hq => Nat.lt_of_lt_of_le (hA.lt hq) hbW.size)
  have HB2 := Lib.hid hb2
  show Calls Try.prog 17 #[eagg ⟨v, l, s, ow⟩, .pointer (some ⟨za, 0, none⟩)] W _
  clear hA ha hbW hl e1 hb2
  go_enter Try.func17, Try.ntmps17
  go_wp2_with fail
  generalize (W.alloc (.cells #[.int .i64 (v.n : Int), .int .i64 (v.root : Int), .int .i64 (v.tail : Int), s, .int .u32 ow] 34)).alloc (.cells #[.int .i64 0, .int .i64 0, .int .i64 0] 30) = w2 at q2 q3 ha2 RN2 HB2 ⊢
  obtain ⟨zr, hzr⟩ : ∃ z, z = W.heap.size + 1 := ⟨_, rfl⟩
  rw [← hzr] at q3 ⊢
  have HZ := Lib.hid (show W.heap.size ≤ zr by omega)
  clear hzr q2
  by_cases h0 : l = []
  · subst h0
    have hwt : want = 3 := by rw [hw]; rfl
    subst hwt
    refine (vPop_nil v b ow w2 (by have := hv.n; simpa using this)).mono ?_
    rintro x w3 ⟨rfl, hb3⟩
    obtain ⟨d0, d1, d2, g0, g1, g2⟩ := (q3.below hb3).all
    have HB3 := Lib.hid (HB2.out.trans (hb3.mono HB2.out.size))
    clear hb3 q3 ha2 hw
    go_wp2_with fail
    exact bodyPost_ret (v := .tuple #[vagg ⟨0, 0, 0⟩, .int .i64 3]) (by simp [results, Try.results17, go_sem, vagg, d0, d1, d2]) rfl (.inr ⟨by decide, rfl, ((HB3.out.setCell (p := ⟨zr, 0, none⟩) HZ.out _).setCell (p := ⟨zr, 1, none⟩) HZ.out _).setCell (p := ⟨zr, 2, none⟩) HZ.out _⟩)
  · have hwt : want = 0 := by rw [hw, if_neg h0]
    subst hwt
    refine (pop_bk v l ow w2 RN2.out.ar (by decide) hP hb hv h0 hroom).mono ?_
    rintro x w3 ⟨v', M', rfl, hres, hs⟩
    have nz : ¬ F zr := fun hf => by have := HF.out zr hf; have := HZ.out; omega
    have q4 := q3.kp hs.kp nz
    have hzl := q3.lt
    have RN3 := Lib.hid (RN2.out.stp hs)
    have NZ := Lib.hid (show ¬ Fn F w2 w3 zr from fun hf => hf.elim nz (fun hf => by have := hf.1; omega))
    have HRES := Lib.hid hres
    clear hs hres q3 ha2 nz hzl hw
    obtain ⟨d0, d1, d2, g0, g1, g2⟩ := q4.all
    go_wp2_with fail
    exact bodyPost_ret (v := .tuple #[vagg v', .int .i64 0]) (by simp [results, Try.results17, go_sem, vagg, d0, d1, d2]) rfl (⟨v', rfl, M', HRES.out, (RN3.out.mine (G := fun g => g = zr) ((((Kp.refl (fun g => g = zr) w3).setCell (.inl rfl) _).setCell (.inl rfl) _).setCell (.inl rfl) _) (fun g e => e ▸ ⟨HZ.out, NZ.out⟩)).fin HF.out⟩)

set_option maxRecDepth 100000 in
set_option maxHeartbeats 1600000 in
theorem does_set (za zt zc : Nat) (e : En) (x : Int × Int × ByteArray) (at' : Int) (l2 : Vs) (want : Int) (w : World) (hA : Ar w b 65536 M F) (ha : w.cell? ⟨za, 0, none⟩ = some (ap b)) (ht : w.cell? ⟨zt, 0, none⟩ = some (.int .i64 at')) (hx0 : w.cell? ⟨zc, 3, none⟩ = some (.int .u8 x.1)) (hx1 : w.cell? ⟨zc, 4, none⟩ = some (.int .i64 x.2.1)) (hx2 : w.cell? ⟨zc, 5, none⟩ = some (.string x.2.2)) (hP : ∀ j, P j ≤ 576460752303423488) (hb : Bk (65536 + 1) M [] P [e.v.root, e.v.tail]) (hv : VecIs M e.v e.l) (hroom : live (65536 + 1) M + 2 ≤ 65536) (hw : (want = 0 ∧ ∃ i : Nat, at' = (i : Int) ∧ i < e.l.length ∧ l2 = e.l.set i x) ∨ (want = 3 ∧ (at' < 0 ∨ (e.l.length : Int) ≤ at'))) :
    Does w b M F P e l2 want 15 #[.pointer (some ⟨za, 0, none⟩), .pointer (some ⟨zt, 0, none⟩), .pointer (some ⟨zc, 0, none⟩)] := by
  intro W hbW
  obtain ⟨v, l, s, ow⟩ := e
  have hl : za < w.heap.size := World.block_lt_of_cell? w _ ha
  have e1 : (W.alloc (.cells #[.int .i64 (v.n : Int), .int .i64 (v.root : Int), .int .i64 (v.tail : Int), s, .int .u32 ow] 34)).heap.size = W.heap.size + 1 := by simp
  have hb2 : Below W.heap.size W ((W.alloc (.cells #[.int .i64 (v.n : Int), .int .i64 (v.root : Int), .int .i64 (v.tail : Int), s, .int .u32 ow] 34)).alloc (.cells #[.int .i64 0, .int .i64 0, .int .i64 0] 30)) := ((Below.refl _ W).alloc (Nat.le_refl _) _).alloc (by simp) _
  have q2 := (C5.new W 34 (.int .i64 (v.n : Int)) (.int .i64 (v.root : Int)) (.int .i64 (v.tail : Int)) s (.int .u32 ow)).alloc (.cells #[.int .i64 0, .int .i64 0, .int .i64 0] 30)
  have q3 := C3.new (W.alloc (.cells #[.int .i64 (v.n : Int), .int .i64 (v.root : Int), .int .i64 (v.tail : Int), s, .int .u32 ow] 34)) 30 (.int .i64 0) (.int .i64 0) (.int .i64 0)
  rw [e1] at q3
  have hlt : zt < w.heap.size := World.block_lt_of_cell? w _ ht
  have hlc : zc < w.heap.size := World.block_lt_of_cell? w _ hx0
  have hb0 := hbW.trans (hb2.mono hbW.size)
  have ha2 := (hb0.cell (p := ⟨za, 0, none⟩) hl).trans ha
  have ht2 := (hb0.cell (p := ⟨zt, 0, none⟩) hlt).trans ht
  have x0 := (hb0.cell (p := ⟨zc, 3, none⟩) hlc).trans hx0
  have x1 := (hb0.cell (p := ⟨zc, 4, none⟩) hlc).trans hx1
  have x2 := (hb0.cell (p := ⟨zc, 5, none⟩) hlc).trans hx2
  have RN2 := Lib.hid (Rn.below (hA.below hbW) hb2)
  have HF := Lib.hid (show ∀ q, F q → q < W.heap.size from fun q hq => Nat.lt_of_lt_of_le (hA.lt hq) hbW.size)
  have HB2 := Lib.hid hb2
  show Calls Try.prog 15 #[eagg ⟨v, l, s, ow⟩, .pointer (some ⟨za, 0, none⟩), .pointer (some ⟨zt, 0, none⟩), .pointer (some ⟨zc, 0, none⟩)] W _
  clear hA ha ht hx0 hx1 hx2 hbW hl hlt hlc e1 hb2 hb0
  go_enter Try.func15, Try.ntmps15
  go_wp2_with fail
  generalize (W.alloc (.cells #[.int .i64 (v.n : Int), .int .i64 (v.root : Int), .int .i64 (v.tail : Int), s, .int .u32 ow] 34)).alloc (.cells #[.int .i64 0, .int .i64 0, .int .i64 0] 30) = w2 at q2 q3 ha2 ht2 x0 x1 x2 RN2 HB2 ⊢
  obtain ⟨zr, hzr⟩ : ∃ z, z = W.heap.size + 1 := ⟨_, rfl⟩
  rw [← hzr] at q3 ⊢
  have HZ := Lib.hid (show W.heap.size ≤ zr by omega)
  clear hzr q2
  rcases hw with ⟨rfl, i, rfl, hi, rfl⟩ | ⟨rfl, hi⟩
  · refine (set_bk v l i x ow w2 RN2.out.ar (by decide) hP hb hv hi hroom).mono ?_
    rintro y w3 ⟨v', M', rfl, hres, hs⟩
    have nz : ¬ F zr := fun hf => by have := HF.out zr hf; have := HZ.out; omega
    have q4 := q3.kp hs.kp nz
    have hzl := q3.lt
    have RN3 := Lib.hid (RN2.out.stp hs)
    have NZ := Lib.hid (show ¬ Fn F w2 w3 zr from fun hf => hf.elim nz (fun hf => by have := hf.1; omega))
    have HRES := Lib.hid hres
    clear hs hres q3 ha2 ht2 x0 x1 x2 nz hzl
    obtain ⟨d0, d1, d2, g0, g1, g2⟩ := q4.all
    go_wp2_with fail
    exact bodyPost_ret (v := .tuple #[vagg v', .int .i64 0]) (by simp [results, Try.results15, go_sem, vagg, d0, d1, d2]) rfl (⟨v', rfl, M', HRES.out, (RN3.out.mine (G := fun g => g = zr) ((((Kp.refl (fun g => g = zr) w3).setCell (.inl rfl) _).setCell (.inl rfl) _).setCell (.inl rfl) _) (fun g e => e ▸ ⟨HZ.out, NZ.out⟩)).fin HF.out⟩)
  · refine (vSet_rangeI b v at' x ow w2 (by rw [hv.n]; exact hi)).mono ?_
    rintro y w3 ⟨rfl, hb3⟩
    obtain ⟨d0, d1, d2, g0, g1, g2⟩ := (q3.below hb3).all
    have HB3 := Lib.hid (HB2.out.trans (hb3.mono HB2.out.size))
    clear hb3 q3 ha2 ht2 x0 x1 x2
    go_wp2_with fail
    exact bodyPost_ret (v := .tuple #[vagg ⟨0, 0, 0⟩, .int .i64 3]) (by simp [results, Try.results15, go_sem, vagg, d0, d1, d2]) rfl (.inr ⟨by decide, rfl, ((HB3.out.setCell (p := ⟨zr, 0, none⟩) HZ.out _).setCell (p := ⟨zr, 1, none⟩) HZ.out _).setCell (p := ⟨zr, 2, none⟩) HZ.out _⟩)
/-- What a cell holds. -/
def vI (W : World) (z i : Nat) : Value := match W.cell? ⟨z, i, none⟩ with
  | some u => u
  | none => undef
/-- What stands while Push is called. -/
structure SP (W : World) (za zn zx zr b : Nat) (v : Vc) (s : Value) (ow : Int) (s2 : Value) (g2 o2 : Nat) (x : Int × Int × ByteArray) : Prop where
  ca : W.cell? ⟨za, 0, none⟩ = some (ap b)
  cn : W.cell? ⟨zn, 0, none⟩ = some s2
  cx : C5 W zx 34 (.int .i64 (v.n : Int)) (.int .i64 (v.root : Int)) (.int .i64 (v.tail : Int)) s (.int .u32 ow)
  x0 : W.cell? ⟨g2, o2, none⟩ = some (.int .u8 x.1)
  x1 : W.cell? ⟨g2, o2 + 1, none⟩ = some (.int .i64 x.2.1)
  x2 : W.cell? ⟨g2, o2 + 2, none⟩ = some (.string x.2.2)
  res : ∀ i, i < 3 → W.cell? ⟨zr, i, none⟩ = some (vI W zr i) ∧ W.frozen? ⟨zr, i, none⟩ = false
  ne : za ≠ zr ∧ zn ≠ zr ∧ zx ≠ zr ∧ g2 ≠ zr
section
variable {W W' : World} {za zn zx zr : Nat} {v : Vc} {s : Value} {ow : Int} {s2 : Value} {g2 o2 : Nat} {x : Int × Int × ByteArray} {G : Nat → Prop}
theorem SP.kp (h : SP W za zn zx zr b v s ow s2 g2 o2 x) (hk : Kp G W W') (hG : ∀ q, q = za ∨ q = zn ∨ q = zx ∨ q = zr ∨ q = g2 → ¬ G q) : SP W' za zn zx zr b v s ow s2 g2 o2 x := by
  refine ⟨hk.cell h.ca (hG _ (by simp)), hk.cell h.cn (hG _ (by simp)), h.cx.kp hk (hG _ (by simp)), hk.cell h.x0 (hG _ (by simp)), hk.cell h.x1 (hG _ (by simp)), hk.cell h.x2 (hG _ (by simp)), fun i hi => ?_, h.ne⟩
  obtain ⟨h1, h2⟩ := h.res i hi
  have h3 := hk.cell h1 (hG _ (by simp))
  have e : vI W' zr i = vI W zr i := by unfold vI at h3 ⊢; rw [h1] at h3 ⊢; rw [h3]
  refine ⟨by rw [e]; exact h3, ?_⟩
  rw [← h2]
  unfold World.frozen?
  rw [hk.block zr (World.block_lt_of_cell? W _ h1) (hG _ (by simp))]
theorem SP.set (h : SP W za zn zx zr b v s ow s2 g2 o2 x) (i : Nat) (hi : i < 3) (u : Value) : SP (W.setCell ⟨zr, i, none⟩ u) za zn zx zr b v s ow s2 g2 o2 x := by
  have far : ∀ z o y, z ≠ zr → W.cell? ⟨z, o, none⟩ = some y → (W.setCell ⟨zr, i, none⟩ u).cell? ⟨z, o, none⟩ = some y := fun z o y hz hy => (World.cell?_setCell_other _ _ _ _ (fun e => hz (by injection e with e1 _ _; exact e1.symm))).trans hy
  refine ⟨far _ _ _ h.ne.1 h.ca, far _ _ _ h.ne.2.1 h.cn, h.cx.other h.ne.2.2.1 _, far _ _ _ h.ne.2.2.2 h.x0, far _ _ _ h.ne.2.2.2 h.x1, far _ _ _ h.ne.2.2.2 h.x2, fun j hj => ?_, h.ne⟩
  obtain ⟨h1, h2⟩ := h.res j hj
  refine ⟨?_, (World.frozen?_setCell _ _ _ _).trans h2⟩
  by_cases e : j = i
  · subst e
    have h3 := World.cell?_setCell_same W ⟨zr, j, none⟩ u h1
    unfold vI
    rw [h3]
  · have h3 : (W.setCell ⟨zr, i, none⟩ u).cell? ⟨zr, j, none⟩ = some (vI W zr j) := (World.cell?_setCell_other _ _ _ _ (fun e' => e (by injection e' with _ e' _; exact e'.symm))).trans h1
    unfold vI
    rw [h3]
end
set_option maxRecDepth 100000 in
set_option maxHeartbeats 3000000 in
theorem does_push (za zn g2 o2 c2 n2 : Nat) (e : En) (x : Int × Int × ByteArray) (want : Int) (w : World) (hA : Ar w b 65536 M F) (ha : w.cell? ⟨za, 0, none⟩ = some (ap b)) (hn : w.cell? ⟨zn, 0, none⟩ = some (.slice (some ⟨g2, o2, none⟩) n2 c2)) (hn2 : n2 = e.l.length + 1) (hs2 : Rd w (.slice (some ⟨g2, o2, none⟩) n2 c2) (e.l ++ [x]).length ((e.l ++ [x]).flatMap cells3))
    (nF : ¬ F za ∧ ¬ F zn ∧ ¬ F g2) (hP : ∀ j, P j ≤ 576460752303423488) (hb : Bk (65536 + 1) M [] P [e.v.root, e.v.tail]) (hv : VecIs M e.v e.l) (hroom : live (65536 + 1) M + 2 ≤ 65536) (hw : want = if 1024 ≤ e.l.length then 12 else 0) :
    Does w b M F P e (e.l ++ [x]) want 13 #[.pointer (some ⟨za, 0, none⟩), .pointer (some ⟨zn, 0, none⟩)] := by
  intro W hbW
  obtain ⟨v, l, s, ow⟩ := e
  simp only at hn2 hs2 hb hv hw
  obtain ⟨k0, k1, k2⟩ := flat3_at (vs := l ++ [x]) (j := l.length) (x := x) (by rw [List.getElem?_append_right (Nat.le_refl _)]; simp)
  obtain ⟨m, hm⟩ : ∃ m, m = l.length := ⟨_, rfl⟩
  rw [← hm] at k0 k1 k2
  have cel : ∀ j u, ((l ++ [x]).flatMap cells3)[j]? = some u → w.cell? ⟨g2, o2 + j, none⟩ = some u := fun j u hj => by
    obtain ⟨g', o', c', e1, _, h1⟩ := hs2.at hj
    simp only [Value.slice.injEq, Option.some.injEq, Addr.mk.injEq, and_true] at e1
    obtain ⟨⟨rfl, rfl⟩, _⟩ := e1
    exact h1
  have c0 := cel _ _ k0
  have c1 := cel _ _ k1
  have c2' := cel _ _ k2
  have la : za < w.heap.size := World.block_lt_of_cell? w _ ha
  have ln : zn < w.heap.size := World.block_lt_of_cell? w _ hn
  have lg : g2 < w.heap.size := World.block_lt_of_cell? w _ c0
  have e1 : (W.alloc (.cells #[.int .i64 (v.n : Int), .int .i64 (v.root : Int), .int .i64 (v.tail : Int), s, .int .u32 ow] 34)).heap.size = W.heap.size + 1 := by simp
  have hb2 : Below W.heap.size W ((W.alloc (.cells #[.int .i64 (v.n : Int), .int .i64 (v.root : Int), .int .i64 (v.tail : Int), s, .int .u32 ow] 34)).alloc (.cells #[.int .i64 0, .int .i64 0, .int .i64 0] 30)) := ((Below.refl _ W).alloc (Nat.le_refl _) _).alloc (by simp) _
  have hb0 := hbW.trans (hb2.mono hbW.size)
  have q2 := (C5.new W 34 (.int .i64 (v.n : Int)) (.int .i64 (v.root : Int)) (.int .i64 (v.tail : Int)) s (.int .u32 ow)).alloc (.cells #[.int .i64 0, .int .i64 0, .int .i64 0] 30)
  have q3 := C3.new (W.alloc (.cells #[.int .i64 (v.n : Int), .int .i64 (v.root : Int), .int .i64 (v.tail : Int), s, .int .u32 ow] 34)) 30 (.int .i64 0) (.int .i64 0) (.int .i64 0)
  rw [e1] at q3
  have hsp : SP ((W.alloc (.cells #[.int .i64 (v.n : Int), .int .i64 (v.root : Int), .int .i64 (v.tail : Int), s, .int .u32 ow] 34)).alloc (.cells #[.int .i64 0, .int .i64 0, .int .i64 0] 30)) za zn W.heap.size (W.heap.size + 1) b v s ow (.slice (some ⟨g2, o2, none⟩) n2 c2) g2 (o2 + m * 3) x := by
    have hws := hbW.size
    refine ⟨(hb0.cell (p := ⟨za, 0, none⟩) la).trans ha, (hb0.cell (p := ⟨zn, 0, none⟩) ln).trans hn, q2, (hb0.cell (p := ⟨g2, _, none⟩) lg).trans c0, ?_, ?_, fun i hi => ?_, ⟨by omega, by omega, by omega, by omega⟩⟩
    · rw [Nat.add_assoc]; exact (hb0.cell (p := ⟨g2, _, none⟩) lg).trans c1
    · rw [Nat.add_assoc]; exact (hb0.cell (p := ⟨g2, _, none⟩) lg).trans c2'
    · obtain ⟨d0, d1, d2, g0, g1, g2'⟩ := q3.all
      have : i = 0 ∨ i = 1 ∨ i = 2 := by omega
      rcases this with rfl | rfl | rfl
      · exact ⟨by unfold vI; rw [d0], g0⟩
      · exact ⟨by unfold vI; rw [d1], g1⟩
      · exact ⟨by unfold vI; rw [d2], g2'⟩
  have HSP := Lib.hid hsp
  have RN2 := Lib.hid (Rn.below (hA.below hbW) hb2)
  have HF := Lib.hid (show ∀ q, F q → q < W.heap.size from fun q hq => Nat.lt_of_lt_of_le (hA.lt hq) hbW.size)
  have HB2 := Lib.hid hb2
  have hI : (n2 : Int) - 1 = (m : Int) := by omega
  have hI1 : (m : Int) < (n2 : Int) := by omega
  have hI0 : (0 : Int) ≤ (m : Int) := by omega
  have hlb : n2 ≤ 1100 := by have := hv.le; omega
  have hlb2 : m ≤ 1024 := by have := hv.le; omega
  have HM := Lib.hid hm
  have hwm : IntKind.i64.wrap (m : Int) = (m : Int) := IntWalk.i64_in (m : Int) (by omega)
  have NF := Lib.hid nF
  have HL := Lib.hid (And.intro la (And.intro ln (And.intro lg hbW.size)))
  have HN2 := Lib.hid hn2
  show Calls Try.prog 13 #[eagg ⟨v, l, s, ow⟩, .pointer (some ⟨za, 0, none⟩), .pointer (some ⟨zn, 0, none⟩)] W _
  clear hA ha hn hbW e1 hb2 hb0 q2 q3 hsp c0 c1 c2' cel k0 k1 k2 hs2 la ln lg nF hn2 hm
  go_enter Try.func13, Try.ntmps13
  go_wp2_with fail
  generalize (W.alloc (.cells #[.int .i64 (v.n : Int), .int .i64 (v.root : Int), .int .i64 (v.tail : Int), s, .int .u32 ow] 34)).alloc (.cells #[.int .i64 0, .int .i64 0, .int .i64 0] 30) = w2 at HSP RN2 HB2 ⊢
  obtain ⟨zr, hzr⟩ : ∃ z, z = W.heap.size + 1 := ⟨_, rfl⟩
  rw [← hzr] at HSP ⊢
  obtain ⟨zx, hzx⟩ : ∃ z, z = W.heap.size := ⟨_, rfl⟩
  rw [← hzx] at HSP ⊢
  have HZ := Lib.hid (show W.heap.size ≤ zr ∧ W.heap.size ≤ zx by omega)
  have NZ := Lib.hid (show ∀ q, q = za ∨ q = zn ∨ q = zx ∨ q = zr ∨ q = g2 → ¬ F q from fun q hq hf => by
    have h1 := HF.out q hf
    have h2 := HZ.out
    rcases hq with e | e | e | e | e
    · exact NF.out.1 (e ▸ hf)
    · exact NF.out.2.1 (e ▸ hf)
    · omega
    · omega
    · exact NF.out.2.2 (e ▸ hf))
  clear hzr hzx
  have s0 : ∀ W', SP W' za zn zx zr b v s ow (.slice (some ⟨g2, o2, none⟩) n2 c2) g2 (o2 + m * 3) x → W'.cell? ⟨za, 0, none⟩ = some (ap b) := fun W' h => h.ca
  have s1 : ∀ W', SP W' za zn zx zr b v s ow (.slice (some ⟨g2, o2, none⟩) n2 c2) g2 (o2 + m * 3) x → W'.cell? ⟨zn, 0, none⟩ = some (.slice (some ⟨g2, o2, none⟩) n2 c2) := fun W' h => h.cn
  have s2' : ∀ W', SP W' za zn zx zr b v s ow (.slice (some ⟨g2, o2, none⟩) n2 c2) g2 (o2 + m * 3) x → W'.cell? ⟨zx, 0, none⟩ = some (.int .i64 (v.n : Int)) := fun W' h => h.cx.c0
  have s3 : ∀ W', SP W' za zn zx zr b v s ow (.slice (some ⟨g2, o2, none⟩) n2 c2) g2 (o2 + m * 3) x → W'.cell? ⟨zx, 1, none⟩ = some (.int .i64 (v.root : Int)) := fun W' h => h.cx.c1
  have s4 : ∀ W', SP W' za zn zx zr b v s ow (.slice (some ⟨g2, o2, none⟩) n2 c2) g2 (o2 + m * 3) x → W'.cell? ⟨zx, 2, none⟩ = some (.int .i64 (v.tail : Int)) := fun W' h => h.cx.c2
  have s5 : ∀ W', SP W' za zn zx zr b v s ow (.slice (some ⟨g2, o2, none⟩) n2 c2) g2 (o2 + m * 3) x → W'.cell? ⟨zx, 4, none⟩ = some (.int .u32 ow) := fun W' h => h.cx.c4
  have s6 : ∀ W', SP W' za zn zx zr b v s ow (.slice (some ⟨g2, o2, none⟩) n2 c2) g2 (o2 + m * 3) x → W'.cell? ⟨g2, o2 + m * 3, none⟩ = some (.int .u8 x.1) := fun W' h => h.x0
  have s7 : ∀ W', SP W' za zn zx zr b v s ow (.slice (some ⟨g2, o2, none⟩) n2 c2) g2 (o2 + m * 3) x → W'.cell? ⟨g2, o2 + m * 3 + 1, none⟩ = some (.int .i64 x.2.1) := fun W' h => h.x1
  have s8 : ∀ W', SP W' za zn zx zr b v s ow (.slice (some ⟨g2, o2, none⟩) n2 c2) g2 (o2 + m * 3) x → W'.cell? ⟨g2, o2 + m * 3 + 2, none⟩ = some (.string x.2.2) := fun W' h => h.x2
  have t0 : ∀ W', SP W' za zn zx zr b v s ow (.slice (some ⟨g2, o2, none⟩) n2 c2) g2 (o2 + m * 3) x → W'.cell? ⟨zr, 0, none⟩ = some (vI W' zr 0) := fun W' h => (h.res 0 (by decide)).1
  have t1 : ∀ W', SP W' za zn zx zr b v s ow (.slice (some ⟨g2, o2, none⟩) n2 c2) g2 (o2 + m * 3) x → W'.cell? ⟨zr, 1, none⟩ = some (vI W' zr 1) := fun W' h => (h.res 1 (by decide)).1
  have t2 : ∀ W', SP W' za zn zx zr b v s ow (.slice (some ⟨g2, o2, none⟩) n2 c2) g2 (o2 + m * 3) x → W'.cell? ⟨zr, 2, none⟩ = some (vI W' zr 2) := fun W' h => (h.res 2 (by decide)).1
  have u0 : ∀ W', SP W' za zn zx zr b v s ow (.slice (some ⟨g2, o2, none⟩) n2 c2) g2 (o2 + m * 3) x → W'.frozen? ⟨zr, 0, none⟩ = false := fun W' h => (h.res 0 (by decide)).2
  have u1 : ∀ W', SP W' za zn zx zr b v s ow (.slice (some ⟨g2, o2, none⟩) n2 c2) g2 (o2 + m * 3) x → W'.frozen? ⟨zr, 1, none⟩ = false := fun W' h => (h.res 1 (by decide)).2
  have u2 : ∀ W', SP W' za zn zx zr b v s ow (.slice (some ⟨g2, o2, none⟩) n2 c2) g2 (o2 + m * 3) x → W'.frozen? ⟨zr, 2, none⟩ = false := fun W' h => (h.res 2 (by decide)).2
  have HSD := Lib.hid (HSP.out.kp (Kp.of_below (Below.refl _ w2).drew (fun _ => False)) (fun _ _ h => h))
  have RND := Lib.hid (RN2.out.mine (Kp.of_below (Below.refl _ w2).drew (fun _ => False)) (fun _ h => h.elim))
  have HBD := Lib.hid (HB2.out.trans ((Below.refl _ w2).drew.mono HB2.out.size))
  by_cases h0 : 1024 ≤ l.length
  · have hwt : want = 12 := by rw [hw, if_pos h0]
    clear hw
    subst hwt
    refine wp_region_noPanic ?_
    go_region_held (fun W' => SP W' za zn zx zr b v s ow (.slice (some ⟨g2, o2, none⟩) n2 c2) g2 (o2 + m * 3) x)
      (first | with_reducible assumption | with_reducible exact HSD.out | with_reducible exact HS3.out | with_reducible exact ((HS3.out.set 0 (by decide) _).set 1 (by decide) _).set 2 (by decide) _)
      ((go_at_call 14
        (with_reducible_and_instances refine (vPush_long v x ow _ _ (by rw [hv.n]; exact h0)).mono ?_)
        rintro y w3 ⟨rfl, hb3⟩
        have HS3 := Lib.hid (HSD.out.kp (Kp.of_below hb3 (fun _ => False)) (fun _ _ h => h))
        have HB3 := Lib.hid (HBD.out.trans (hb3.mono HBD.out.size))
        clear hb3))
    refine NoPanic.normal ?_
    clear s0 s1 s2' s3 s4 s5 s6 s7 s8 t0 t1 t2 u0 u1 u2
    have d0 := (HS3.out.res 0 (by decide)).1
    have d1 := (HS3.out.res 1 (by decide)).1
    have d2 := (HS3.out.res 2 (by decide)).1
    go_wp2_with fail
    exact bodyPost_ret (v := .tuple #[vagg ⟨0, 0, 0⟩, .int .i64 12]) (by simp [results, Try.results13, go_sem, vagg, d0, d1, d2]) rfl (.inr ⟨by decide, rfl, ((HB3.out.setCell (p := ⟨zr, 0, none⟩) HZ.out.1 _).setCell (p := ⟨zr, 1, none⟩) HZ.out.1 _).setCell (p := ⟨zr, 2, none⟩) HZ.out.1 _⟩)
  · have hwt : want = 0 := by rw [hw, if_neg h0]
    clear hw
    subst hwt
    refine wp_region_noPanic ?_
    go_region_held (fun W' => SP W' za zn zx zr b v s ow (.slice (some ⟨g2, o2, none⟩) n2 c2) g2 (o2 + m * 3) x)
      (first | with_reducible assumption | with_reducible exact HSD.out | with_reducible exact HS3.out | with_reducible exact ((HS3.out.set 0 (by decide) _).set 1 (by decide) _).set 2 (by decide) _)
      ((go_at_call 14
        (with_reducible_and_instances refine (push_bk v l x ow _ RND.out.ar (by decide) hP hb hv (by omega) hroom).mono ?_)
        rintro y w3 ⟨v', M', rfl, hres, hs⟩
        have HS3 := Lib.hid (HSD.out.kp hs.kp NZ.out)
        have RN3 := Lib.hid (RND.out.stp hs)
        have HRES := Lib.hid hres
        have HSZ := Lib.hid hs.kp.size
        clear hs hres))
    refine NoPanic.normal ?_
    clear s0 s1 s2' s3 s4 s5 s6 s7 s8 t0 t1 t2 u0 u1 u2
    have d0 := (HS3.out.res 0 (by decide)).1
    have d1 := (HS3.out.res 1 (by decide)).1
    have d2 := (HS3.out.res 2 (by decide)).1
    have NZ3 := Lib.hid (show ¬ Fn F w2.drew w3 zr from fun hf => hf.elim (NZ.out zr (by simp)) (fun hf => by have h1 := World.block_lt_of_cell? w2.drew _ (HSD.out.res 0 (by decide)).1; have h2 := hf.1; exact absurd h1 (Nat.not_lt.2 h2)))
    go_wp2_with fail
    exact bodyPost_ret (v := .tuple #[vagg v', .int .i64 0]) (by simp [results, Try.results13, go_sem, vagg, d0, d1, d2]) rfl (⟨v', rfl, M', HRES.out, (RN3.out.mine (G := fun g => g = zr) ((((Kp.refl (fun g => g = zr) w3).setCell (.inl rfl) _).setCell (.inl rfl) _).setCell (.inl rfl) _) (fun g e => e ▸ ⟨HZ.out.1, NZ3.out⟩)).fin HF.out⟩)
end

end Go.Proofs.Ytgkhbnkbhcginaa

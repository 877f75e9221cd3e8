/- Several texts in one. -/
import Derived.Test.YtghbbpbhbinioaaGreatMr11
import Derived.Test.YtghbbpbhbinioaaGreatMr08
import Derived.StillTailTactics
import Derived.Deep.MidRow
set_option linter.unusedSimpArgs false
namespace Go.Proofs.YtghbbpbhbinioaaGreat
set_option maxRecDepth 100000
set_option linter.unusedSimpArgs false
set_option linter.unusedVariables false
open Go.RowKit
section
theorem tlacks (b bh : Nat) (w : World) : Calls Tryz.prog 68 #[land b bh] w fun e w' => e = .returned (.bool false) ∧ Below w.heap.size w w' := by
  have HB := Lib.hid ((Below.refl w.heap.size w).alloc (Nat.le_refl _) (.cells #[ap b, .pointer (some ⟨bh, 0, none⟩)] 26))
  go_enter Tryz.func68, Tryz.ntmps68
  go_wp2_with fail
  go_ret
  exact ⟨rfl, HB.out⟩
set_option maxHeartbeats 8000000 in
theorem npack (n : Nv) (ow : Int) (w : World) :
    Calls Tryz.prog 125 #[nagg n, .int .u32 ow] w fun e w' => ∃ (a d : Int) (g g' : Nat), e = .returned (cagg ow a d (.slice (some ⟨g, 0, none⟩) 2 2) (.slice (some ⟨g', 11, none⟩) 2 2)) ∧ Rd w' (.slice (some ⟨g, 0, none⟩) 2 2) 2 ([n.key, n.val].flatMap cells3) ∧ Rd w' (.slice (some ⟨g', 11, none⟩) 2 2) 2 (nums (ns [n.kx, n.ky])) ∧ w.heap.size ≤ g ∧ w.heap.size ≤ g' ∧ Below w.heap.size w w' := by
  have hb : Below w.heap.size w ((w.alloc (.cells (ncells n) 144)).alloc (.cells #[.int .u32 0, .int .u32 0, .int .u32 0, .slice none 0 0, .slice none 0 0] 94)) := ((Below.refl _ w).alloc (Nat.le_refl _) _).alloc (by simp) _
  have q0 := (BC.new w 144 (ncells n)).alloc (.cells #[.int .u32 0, .int .u32 0, .int .u32 0, .slice none 0 0, .slice none 0 0] 94)
  have q1 := C5.new (w.alloc (.cells (ncells n) 144)) 94 (.int .u32 0) (.int .u32 0) (.int .u32 0) (.slice none 0 0) (.slice none 0 0)
  have e1 : (w.alloc (.cells (ncells n) 144)).heap.size = w.heap.size + 1 := by simp
  rw [e1] at q1
  have HB := Lib.hid hb
  have HQ1 := Lib.hid q1
  clear hb e1 q1
  go_enter Tryz.func125, Tryz.ntmps125
  go_upto_region 1 with fail
  generalize World.alloc (w.alloc _) _ = W1 at q0 HB HQ1 ⊢
  obtain ⟨z2, hz2⟩ : ∃ z, z = w.heap.size := ⟨_, rfl⟩
  obtain ⟨z4, hz4⟩ : ∃ z, z = w.heap.size + 1 := ⟨_, rfl⟩
  have HZ := Lib.hid (And.intro hz2 hz4)
  rw [← hz4] at HQ1
  rw [← hz2] at q0
  rw [← hz4, ← hz2]
  clear hz2 hz4
  have x : ∀ W, BC W z2 144 (ncells n) → _ := fun W h => BC.node h
  have x0 := fun W h => (x W h).1
  have x1 := fun W h => (x W h).2.1
  have x2 := fun W h => (x W h).2.2.1
  have x3 := fun W h => (x W h).2.2.2.1
  have x4 := fun W h => (x W h).2.2.2.2.1
  have x5 := fun W h => (x W h).2.2.2.2.2.1
  have x10 := fun W h => (x W h).2.2.2.2.2.2.2.2.2.2.1
  clear x
  refine wp_region_noPanic ?_
  refine wp_region_held_drew (S := fun W => BC W z2 144 (ncells n)) (by kernel_rfl) q0.drew (fun hH => ?_)
  have b0 := HB.out
  generalize hWc : W1.drew = Wc at hH ⊢
  have bc := Lib.hid (show Below w.heap.size w Wc ∧ C5 Wc z4 94 (.int .u32 0) (.int .u32 0) (.int .u32 0) (.slice none 0 0) (.slice none 0 0) from by
    rw [← hWc]
    exact ⟨b0.trans ((Below.refl _ W1).drew.mono b0.size), HQ1.out.drew⟩)
  clear hWc b0 HB HQ1 q0
  refine tkH ?_ 0 hH ?_ ?_; rotate_left
  · intro W' hS; go_simp; with_reducible rfl
  simp only [tkr]
  refine tkH ?_ 1 hH ?_ ?_; rotate_left
  · intro W' hS; go_simp; with_reducible rfl
  simp only [tkr]
  refine tkH ?_ 2 hH ?_ ?_; rotate_left
  · intro W' hS; go_simp; with_reducible rfl
  simp only [tkr]
  refine tkH ?_ 3 hH ?_ ?_; rotate_left
  · intro W' hS; go_simp; with_reducible rfl
  simp only [tkr]
  refine tkH ?_ 4 hH ?_ ?_; rotate_left
  · intro W' hS; go_simp; with_reducible rfl
  simp only [tkr]
  refine tkH ?_ 5 hH ?_ ?_; rotate_left
  · intro W' hS; go_simp; with_reducible rfl
  simp only [tkr]
  refine tkH ?_ 6 hH ?_ ?_; rotate_left
  · intro W' hS; go_simp; with_reducible rfl
  simp only [tkr]
  refine tkH ?_ 7 hH ?_ ?_; rotate_left
  · intro W' hS; go_simp; with_reducible rfl
  simp only [tkr]
  refine tkH ?_ 8 hH ?_ ?_; rotate_left
  · intro W' hS; go_simp; with_reducible rfl
  simp only [tkr]
  refine tkH ?_ 9 hH ?_ ?_; rotate_left
  · intro W' hS; go_simp; with_reducible rfl
  simp only [tkr]
  refine tkH ?_ 10 hH ?_ ?_; rotate_left
  · intro W' hS; go_simp; with_reducible rfl
  simp only [tkr]
  refine tkH ?_ 11 hH ?_ ?_; rotate_left
  · intro W' hS; go_simp; with_reducible rfl
  simp only [tkr]
  refine tkH ?_ 12 hH ?_ ?_; rotate_left
  · intro W' hS; go_simp; with_reducible rfl
  simp only [tkr]
  refine tkH ?_ 13 hH ?_ ?_; rotate_left
  · intro W' hS; go_simp; with_reducible rfl
  simp only [tkr]
  refine tkH ?_ 15 hH ?_ ?_; rotate_left
  · intro W' hS; go_simp; with_reducible rfl
  simp only [tkr]
  refine tkH ?_ 16 hH ?_ ?_; rotate_left
  · intro W' hS; go_simp; with_reducible rfl
  simp only [tkr]
  refine rdH 14 rfl (fun K hK => ?_)
  go_simp
  have hr := Rd.pair Wc n.key n.val 36 Wc.heap.size rfl
  have hb5 : Below Wc.heap.size Wc (Wc.alloc (.cells #[.int .u8 n.key.1, .int .i64 n.key.2.1, .string n.key.2.2, .int .u8 n.val.1, .int .i64 n.val.2.1, .string n.val.2.2] 36)) := (Below.refl _ Wc).alloc (Nat.le_refl _) _
  have b5 := Lib.hid (show Below w.heap.size w (Wc.alloc (.cells #[.int .u8 n.key.1, .int .i64 n.key.2.1, .string n.key.2.2, .int .u8 n.val.1, .int .i64 n.val.2.1, .string n.val.2.2] 36)) ∧ C5 (Wc.alloc (.cells #[.int .u8 n.key.1, .int .i64 n.key.2.1, .string n.key.2.2, .int .u8 n.val.1, .int .i64 n.val.2.1, .string n.val.2.2] 36)) z4 94 (.int .u32 0) (.int .u32 0) (.int .u32 0) (.slice none 0 0) (.slice none 0 0) ∧ z4 < Wc.heap.size from ⟨bc.out.1.trans (hb5.mono bc.out.1.size), bc.out.2.alloc _, bc.out.2.lt⟩)
  have hH2 := hH.below hb5
  refine hK.out _ _ hH2 (fun hH => ?_)
  clear hK K hb5 hH2 bc
  generalize World.alloc _ _ = Wn at hr b5 hH ⊢
  generalize Wc.heap.size = g at hr b5 ⊢
  rename World => Wc
  refine tkH ?_ 17 hH ?_ ?_; rotate_left
  · intro W' hS; go_simp; with_reducible rfl
  simp only [tkr]
  refine rdH 18 rfl (fun K hK => ?_)
  have q5 := b5.out.2.1
  obtain ⟨c0, c1, c2, c3, c4, f0, f1, f2, f3, f4⟩ := q5.all
  go_simp
  clear c0 c1 c2 c3 c4 f0 f1 f2 f3 f4
  have q6 : C5 (((((Wc.setCell ⟨z4, 0, none⟩ (.int .u32 ow)).setCell ⟨z4, 1, none⟩ (.int .u32 (IntKind.u32.wrap (n.rank / 4294967296)))).setCell ⟨z4, 2, none⟩ (.int .u32 (IntKind.u32.wrap n.rank))).setCell ⟨z4, 3, none⟩ (.slice (some ⟨g, 0, none⟩) 2 2)).setCell ⟨z4, 4, none⟩ (.slice (some ⟨z2, 11, none⟩) 2 2)) z4 94 (.int .u32 ow) (.int .u32 (IntKind.u32.wrap (n.rank / 4294967296))) (.int .u32 (IntKind.u32.wrap n.rank)) (.slice (some ⟨g, 0, none⟩) 2 2) (.slice (some ⟨z2, 11, none⟩) 2 2) := ((((q5.set0 _).set1 _).set2 _).set3 _).set4 _
  have kz : Kp (fun q => q = z4) Wc (((((Wc.setCell ⟨z4, 0, none⟩ (.int .u32 ow)).setCell ⟨z4, 1, none⟩ (.int .u32 (IntKind.u32.wrap (n.rank / 4294967296)))).setCell ⟨z4, 2, none⟩ (.int .u32 (IntKind.u32.wrap n.rank))).setCell ⟨z4, 3, none⟩ (.slice (some ⟨g, 0, none⟩) 2 2)).setCell ⟨z4, 4, none⟩ (.slice (some ⟨z2, 11, none⟩) 2 2)) := (((((Kp.refl (fun q => q = z4) Wc).setCell (.inl rfl) _).setCell (.inl rfl) _).setCell (.inl rfl) _).setCell (.inl rfl) _).setCell (.inl rfl) _
  have hz4 : w.heap.size ≤ z4 := by have := HZ.out; omega
  have b6 := Lib.hid (show Below w.heap.size w (((((Wc.setCell ⟨z4, 0, none⟩ (.int .u32 ow)).setCell ⟨z4, 1, none⟩ (.int .u32 (IntKind.u32.wrap (n.rank / 4294967296)))).setCell ⟨z4, 2, none⟩ (.int .u32 (IntKind.u32.wrap n.rank))).setCell ⟨z4, 3, none⟩ (.slice (some ⟨g, 0, none⟩) 2 2)).setCell ⟨z4, 4, none⟩ (.slice (some ⟨z2, 11, none⟩) 2 2)) ∧ Rd (((((Wc.setCell ⟨z4, 0, none⟩ (.int .u32 ow)).setCell ⟨z4, 1, none⟩ (.int .u32 (IntKind.u32.wrap (n.rank / 4294967296)))).setCell ⟨z4, 2, none⟩ (.int .u32 (IntKind.u32.wrap n.rank))).setCell ⟨z4, 3, none⟩ (.slice (some ⟨g, 0, none⟩) 2 2)).setCell ⟨z4, 4, none⟩ (.slice (some ⟨z2, 11, none⟩) 2 2)) (.slice (some ⟨g, 0, none⟩) 2 2) 2 ([n.key, n.val].flatMap cells3) ∧ w.heap.size ≤ g from ⟨((((b5.out.1.setCell hz4 _).setCell hz4 _).setCell hz4 _).setCell hz4 _).setCell hz4 _, kz.rd hr (fun q hq => by cases hq; show ¬ g = z4; have := b5.out.2.2; omega), by have := b5.out.2.2; omega⟩)
  have hH2 := hH.kp kz (by have := HZ.out; omega)
  refine hK.out _ _ hH2 (fun hH => ?_)
  clear hK K kz hH2 q5 b5 hr
  generalize World.setCell _ _ _ = Wn at q6 b6 hH ⊢
  rename World => Wc
  refine wpAnyH_done (by kernel_rfl) ?_ _
  refine NoPanic.normal ?_
  clear x0 x1 x2 x3 x4 x5 x10
  obtain ⟨_, _, _, _, _, _, _, _, _, _, _, y11, y12, _⟩ := hH.node
  obtain ⟨d0, d1, d2, d3, d4, _⟩ := q6.all
  have hr2 : Rd Wc (.slice (some ⟨z2, 11, none⟩) 2 2) 2 (nums (ns [n.kx, n.ky])) := .inr ⟨z2, 11, 2, rfl, by decide, fun j u hu => by
    match j, hu with
    | 0, hu => cases hu; exact y11
    | 1, hu => cases hu; exact y12⟩
  go_wp2_with fail
  exact bodyPost_ret (v := cagg ow _ _ (.slice (some ⟨g, 0, none⟩) 2 2) (.slice (some ⟨z2, 11, none⟩) 2 2)) (by simp [results, Tryz.results125, go_sem, d0, d1, d2, d3, d4]; exact ⟨rfl, rfl⟩) rfl ⟨_, _, g, z2, rfl, b6.out.2.1, hr2, b6.out.2.2, by have := HZ.out; omega, b6.out.1⟩
abbrev nzero : Nv := ⟨(0, 0, ⟨#[]⟩), (0, 0, ⟨#[]⟩), 0, none, none, 0, 0, 0, 0, 0⟩
variable {b bh most : Nat} {M : Cells} {F : Nat → Prop}
set_option maxHeartbeats 8000000 in
theorem nread_no (i s : Nat) (lo hi : Option Addr) (w : World) (h : Ar w b most M F) (hM : M i = none) :
    Calls Tryz.prog 77 #[land b bh, plagg i lo hi s] w fun e w' => e = .returned (.tuple #[nagg nzero, .bool false]) ∧ Below w.heap.size w w' := by
  have hb : Below w.heap.size w (((w.alloc (.cells #[ap b, .pointer (some ⟨bh, 0, none⟩)] 26)).alloc (.cells (pcell4 i lo hi s) 141)).alloc (.cells (ncells nzero) 144)) := (((Below.refl _ w).alloc (Nat.le_refl _) _).alloc (by simp) _).alloc (by simp; omega) _
  have e1 : (w.alloc (.cells #[ap b, .pointer (some ⟨bh, 0, none⟩)] 26)).heap.size = w.heap.size + 1 := by simp
  have e2 : ((w.alloc (.cells #[ap b, .pointer (some ⟨bh, 0, none⟩)] 26)).alloc (.cells (pcell4 i lo hi s) 141)).heap.size = w.heap.size + 1 + 1 := by simp
  have q2 := ((C2.new w 26 (ap b) (.pointer (some ⟨bh, 0, none⟩))).alloc (.cells (pcell4 i lo hi s) 141)).alloc (.cells (ncells nzero) 144)
  have q3 := (BC.new (w.alloc (.cells #[ap b, .pointer (some ⟨bh, 0, none⟩)] 26)) 141 (pcell4 i lo hi s)).alloc (.cells (ncells nzero) 144)
  have q4 := BC.new ((w.alloc (.cells #[ap b, .pointer (some ⟨bh, 0, none⟩)] 26)).alloc (.cells (pcell4 i lo hi s) 141)) 144 (ncells nzero)
  rw [e1] at q3
  rw [e2] at q4
  have hA := h.below hb
  have HB := Lib.hid hb
  clear hb e1 e2 h
  go_enter Tryz.func77, Tryz.ntmps77
  go_upto_region 1 with fail
  generalize World.alloc (World.alloc (w.alloc _) _) _ = W1 at q2 q3 q4 hA HB ⊢
  have HG := Lib.hid (get_no (i : Int) b most M F W1 hA (fun _ => by rw [Int.toNat_natCast]; exact hM))
  have x0 := q2.c0
  have y0 := q3.place.1
  clear hA hM
  go_wp2_with fail
  refine HG.out.mono ?_
  rintro e w2 ⟨rfl, hb2⟩
  clear x0 y0 HG
  go_upto_region 2 with fail
  have hb3 : Below w2.heap.size w2 (w2.alloc (.cells #[.int .u32 0, .int .u32 0, .int .u32 0, .slice none 0 0, .slice none 0 0] 94)) := (Below.refl _ w2).alloc (Nat.le_refl _) _
  have hb4 := hb2.trans (hb3.mono hb2.size)
  have HB3 := Lib.hid (HB.out.trans (hb4.mono HB.out.size))
  replace q2 := q2.below hb4
  replace q3 := q3.below hb4
  replace q4 := q4.below hb4
  clear hb2 hb3 hb4 HB
  generalize w2.alloc _ = W3 at q2 q3 q4 HB3 ⊢
  generalize w2.heap.size = z6
  have k0 := Gb.cell q2.c0 q2.lt
  have k1 := Gb.cell q2.c1 q2.lt
  refine region_below (by kernel_rfl) (by kernel_rfl) ?_
  repeat (go_big_quiet_step ((go_at_call 68; exact Gb.calls _ (tlacks _ _ _))))
  refine wpQuiet_nil ?_
  rintro _ ⟨g9, rfl⟩
  replace q4 := q4.below g9.below
  have HB6 := Lib.hid (HB3.out.trans (g9.below.mono HB3.out.size))
  clear q2 q3 HB3 k0 k1
  generalize g9.at' = w6 at q4 HB6 ⊢
  clear g9
  obtain ⟨c0, c1, c2, c3, c4, c5, c6, c7, c8, c9, c10, c11, c12, c13⟩ := q4.node
  simp only at c0 c1 c2 c3 c4 c5 c6 c7 c8 c9 c10 c11 c12 c13
  obtain ⟨f0, f1, f2, f3, f4, f5, f6, f7, f8, f9, f10, f11, f12, f13⟩ := q4.fz14
  go_wp2_with fail
  have q5 := q4.setN nzero
  have b5 := Lib.hid (below_setN HB6.out (show w.heap.size ≤ w.heap.size + 1 + 1 by omega) nzero)
  clear c0 c1 c2 c3 c4 c5 c6 c7 c8 c9 c10 c11 c12 c13 f0 f1 f2 f3 f4 f5 f6 f7 f8 f9 f10 f11 f12 f13
  change bodyPost _ _ _ _ _ (setN w6 (w.heap.size + 1 + 1) nzero)
  generalize setN w6 (w.heap.size + 1 + 1) nzero = W7 at q5 b5 ⊢
  obtain ⟨c0, c1, c2, c3, c4, c5, c6, c7, c8, c9, c10, c11, c12, c13⟩ := q5.node
  simp only at c0 c1 c2 c3 c4 c5 c6 c7 c8 c9 c10 c11 c12 c13
  exact bodyPost_ret (v := .tuple #[nagg nzero, .bool false]) (by simp [results, Tryz.results77, go_sem, c0, c1, c2, c3, c4, c5, c6, c7, c8, c9, c10, c11, c12, c13]) rfl ⟨rfl, b5.out⟩
set_option maxHeartbeats 8000000 in
theorem nread (i s : Nat) (lo hi : Option Addr) (o ca cb : Int) (k v : Ky) (x y r : Nat) (w : World) (h : Ar w b most M F) (hM : M i = some (⟨o, ca, cb, [k, v], [x, y]⟩, r)) (hl : Lim w lo (fun a => vc a k = -1)) (hh : Lim w hi (fun a => vc k a = -1)) :
    Calls Tryz.prog 77 #[land b bh, plagg i lo hi s] w fun e w' => ∃ ρ, e = .returned (.tuple #[nagg ⟨k, v, i, lo, hi, s, ρ, x, y, 0⟩, .bool true]) ∧ Below w.heap.size w w' := by
  have hb : Below w.heap.size w (((w.alloc (.cells #[ap b, .pointer (some ⟨bh, 0, none⟩)] 26)).alloc (.cells (pcell4 i lo hi s) 141)).alloc (.cells (ncells nzero) 144)) := (((Below.refl _ w).alloc (Nat.le_refl _) _).alloc (by simp) _).alloc (by simp; omega) _
  have e1 : (w.alloc (.cells #[ap b, .pointer (some ⟨bh, 0, none⟩)] 26)).heap.size = w.heap.size + 1 := by simp
  have e2 : ((w.alloc (.cells #[ap b, .pointer (some ⟨bh, 0, none⟩)] 26)).alloc (.cells (pcell4 i lo hi s) 141)).heap.size = w.heap.size + 1 + 1 := by simp
  have q2 := ((C2.new w 26 (ap b) (.pointer (some ⟨bh, 0, none⟩))).alloc (.cells (pcell4 i lo hi s) 141)).alloc (.cells (ncells nzero) 144)
  have q3 := (BC.new (w.alloc (.cells #[ap b, .pointer (some ⟨bh, 0, none⟩)] 26)) 141 (pcell4 i lo hi s)).alloc (.cells (ncells nzero) 144)
  have q4 := BC.new ((w.alloc (.cells #[ap b, .pointer (some ⟨bh, 0, none⟩)] 26)).alloc (.cells (pcell4 i lo hi s) 141)) 144 (ncells nzero)
  rw [e1] at q3
  rw [e2] at q4
  have hA := h.below hb
  have HLIM := Lib.hid (And.intro (hl.below hb) (hh.below hb))
  have HB := Lib.hid hb
  clear hb e1 e2 h hl hh
  go_enter Tryz.func77, Tryz.ntmps77
  go_upto_region 1 with fail
  generalize World.alloc (World.alloc (w.alloc _) _) _ = W1 at q2 q3 q4 hA HB HLIM ⊢
  have HG := Lib.hid (get i _ r b most M F W1 hA hM)
  have x0 := q2.c0
  have y0 := q3.place.1
  clear hA hM
  go_wp2_with fail
  refine HG.out.mono ?_
  rintro e w2 ⟨V, K, rfl, ov, ok, hb2⟩
  obtain ⟨gV, cV, rfl, _, _, _⟩ := own_at ov (j := 0) (u := .int .u8 k.1) rfl
  obtain ⟨gK, cK, rfl, _, _, _⟩ := own_at ok (j := 0) (u := .int .i64 (x : Nat)) rfl
  clear x0 y0 HG
  go_upto_region 2 with fail
  have q6 := C5.new w2 94 (.int .u32 o) (.int .u32 ca) (.int .u32 cb) (.slice (some ⟨gV, 0, none⟩) 2 cV) (.slice (some ⟨gK, 0, none⟩) 2 cK)
  have hb3 : Below w2.heap.size w2 (w2.alloc (.cells #[.int .u32 o, .int .u32 ca, .int .u32 cb, .slice (some ⟨gV, 0, none⟩) 2 cV, .slice (some ⟨gK, 0, none⟩) 2 cK] 94)) := (Below.refl _ w2).alloc (Nat.le_refl _) _
  have hb4 := hb2.trans (hb3.mono hb2.size)
  have HB3 := Lib.hid (HB.out.trans (hb4.mono HB.out.size))
  replace q2 := q2.below hb4
  replace q3 := q3.below hb4
  replace q4 := q4.below hb4
  have ov2 := (Rd.of_own ov).below hb3
  have ok2 := (Rd.of_own ok).below hb3
  have HL3 := Lib.hid (And.intro (HLIM.out.1.below hb4) (HLIM.out.2.below hb4))
  clear hb2 hb3 hb4 HB HLIM ov ok
  change Code.wp _ _ _ _ (w2.alloc (.cells #[.int .u32 o, .int .u32 ca, .int .u32 cb, .slice (some ⟨gV, 0, none⟩) 2 cV, .slice (some ⟨gK, 0, none⟩) 2 cK] 94))
  generalize w2.alloc _ = W3 at q2 q3 q4 q6 ov2 ok2 HB3 HL3 ⊢
  generalize w2.heap.size = z6 at q6 ⊢
  have hcell : ∀ (g n c : Nat) (xs : List Value), Rd W3 (.slice (some ⟨g, 0, none⟩) n c) n xs → ∀ (j : Nat) (u : Value), xs[j]? = some u → W3.cell? ⟨g, j, none⟩ = some u := fun g n c xs h j u hu => by
    rcases h with ⟨e, _, _⟩ | ⟨g', o', c', e, _, hc⟩
    · cases e
    · cases e
      have := hc j u hu
      rwa [Nat.zero_add] at this
  have v0 : W3.cell? ⟨gV, 0, none⟩ = some (.int .u8 k.1) := hcell _ _ _ _ ov2 0 _ rfl
  have v1 : W3.cell? ⟨gV, 1, none⟩ = some (.int .i64 k.2.1) := hcell _ _ _ _ ov2 1 _ rfl
  have v2 : W3.cell? ⟨gV, 2, none⟩ = some (.string k.2.2) := hcell _ _ _ _ ov2 2 _ rfl
  have v3 : W3.cell? ⟨gV, 3, none⟩ = some (.int .u8 v.1) := hcell _ _ _ _ ov2 3 _ rfl
  have v4 : W3.cell? ⟨gV, 4, none⟩ = some (.int .i64 v.2.1) := hcell _ _ _ _ ov2 4 _ rfl
  have v5 : W3.cell? ⟨gV, 5, none⟩ = some (.string v.2.2) := hcell _ _ _ _ ov2 5 _ rfl
  have u0 : W3.cell? ⟨gK, 0, none⟩ = some (.int .i64 (x : Nat)) := hcell _ _ _ _ ok2 0 _ rfl
  have u1 : W3.cell? ⟨gK, 1, none⟩ = some (.int .i64 (y : Nat)) := hcell _ _ _ _ ok2 1 _ rfl
  clear hcell ov2 ok2
  have lV := World.block_lt_of_cell? W3 _ v0
  have lK := World.block_lt_of_cell? W3 _ u0
  have k0 := Gb.cell q2.c0 q2.lt
  have k1 := Gb.cell q2.c1 q2.lt
  obtain ⟨p0, p1, p2, p3⟩ := q3.place
  have p0' := Gb.cell p0 q3.lt
  have p1' := Gb.cell p1 q3.lt
  have p2' := Gb.cell p2 q3.lt
  have p3' := Gb.cell p3 q3.lt
  have a3 := Gb.cell q6.c3 q6.lt
  have a4 := Gb.cell q6.c4 q6.lt
  have b0 := Gb.cell v0 lV
  have b1 := Gb.cell v1 lV
  have b2 := Gb.cell v2 lV
  have HLG := Lib.hid (fun g : Gb W3 => And.intro (HL3.out.1.below g.below) (HL3.out.2.below g.below))
  have HV := Lib.hid (And.intro v0 (And.intro v1 (And.intro v2 (And.intro v3 (And.intro v4 (And.intro v5 (And.intro u0 u1)))))))
  have HLT := Lib.hid (And.intro lV lK)
  clear v0 v1 v2 v3 v4 v5 u0 u1 lV lK p0 p1 p2 p3 HL3
  refine region_below (by kernel_rfl) (by kernel_rfl) ?_
  repeat (go_big_quiet_step (first | (go_at_call 68; exact Gb.calls _ (tlacks _ _ _)) | (go_at_call 127; exact Gb.calls _ (nadmits _ _ _ _ _ _ (HLG.out _).1 (HLG.out _).2))))
  refine wpQuiet_nil ?_
  rintro _ ⟨g9, rfl⟩
  have hb9 := g9.below
  replace q2 := q2.below hb9
  replace q3 := q3.below hb9
  replace q4 := q4.below hb9
  replace q6 := q6.below hb9
  have HB6 := Lib.hid (HB3.out.trans (hb9.mono HB3.out.size))
  have HV6 := Lib.hid (show g9.at'.cell? ⟨gV, 0, none⟩ = some (.int .u8 k.1) ∧ g9.at'.cell? ⟨gV, 1, none⟩ = some (.int .i64 k.2.1) ∧ g9.at'.cell? ⟨gV, 2, none⟩ = some (.string k.2.2) ∧ g9.at'.cell? ⟨gV, 3, none⟩ = some (.int .u8 v.1) ∧ g9.at'.cell? ⟨gV, 4, none⟩ = some (.int .i64 v.2.1) ∧ g9.at'.cell? ⟨gV, 5, none⟩ = some (.string v.2.2) ∧ g9.at'.cell? ⟨gK, 0, none⟩ = some (.int .i64 (x : Nat)) ∧ g9.at'.cell? ⟨gK, 1, none⟩ = some (.int .i64 (y : Nat)) from by
    obtain ⟨v0, v1, v2, v3, v4, v5, u0, u1⟩ := HV.out
    exact ⟨Gb.cell v0 HLT.out.1 g9, Gb.cell v1 HLT.out.1 g9, Gb.cell v2 HLT.out.1 g9, Gb.cell v3 HLT.out.1 g9, Gb.cell v4 HLT.out.1 g9, Gb.cell v5 HLT.out.1 g9, Gb.cell u0 HLT.out.2 g9, Gb.cell u1 HLT.out.2 g9⟩)
  clear HB3 k0 k1 p0' p1' p2' p3' a3 a4 b0 b1 b2 HLG HV HLT hb9
  generalize g9.at' = w6 at q2 q3 q4 q6 HB6 HV6 ⊢
  clear g9
  go_wp2_with fail
  obtain ⟨v0, v1, v2, v3, v4, v5, u0, u1⟩ := HV6.out
  obtain ⟨p0, p1, p2, p3⟩ := q3.place
  obtain ⟨c0, c1, c2, c3, c4, c5, c6, c7, c8, c9, c10, c11, c12, c13⟩ := q4.node
  simp only at c0 c1 c2 c3 c4 c5 c6 c7 c8 c9 c10 c11 c12 c13
  obtain ⟨f0, f1, f2, f3, f4, f5, f6, f7, f8, f9, f10, f11, f12, f13⟩ := q4.fz14
  obtain ⟨a0, a1, a2, a3, a4, _⟩ := q6.all
  go_still_tail 28, (by kernel_rfl)
  change wpList _ _ _ _ _ w6.drew
  have q5 := q4.drew
  have HB7 := Lib.hid (HB6.out.trans ((Below.refl _ w6).drew.mono HB6.out.size))
  clear v0 v1 v2 v3 v4 v5 u0 u1 p0 p1 p2 p3 a0 a1 a2 a3 a4 c0 c1 c2 c3 c4 c5 c6 c7 c8 c9 c10 c11 c12 c13 f0 f1 f2 f3 f4 f5 f6 f7 f8 f9 f10 f11 f12 f13 HB6 HV6 q2 q3 q6 q4
  generalize w6.drew = w7 at q5 HB7 ⊢
  obtain ⟨c0, c1, c2, c3, c4, c5, c6, c7, c8, c9, c10, c11, c12, c13⟩ := q5.node
  simp only at c0 c1 c2 c3 c4 c5 c6 c7 c8 c9 c10 c11 c12 c13
  obtain ⟨f0, f1, f2, f3, f4, f5, f6, f7, f8, f9, f10, f11, f12, f13⟩ := q5.fz14
  go_wp2_with fail
  clear c0 c1 c2 c3 c4 c5 c6 c7 c8 c9 c10 c11 c12 c13 f0 f1 f2 f3 f4 f5 f6 f7 f8 f9 f10 f11 f12 f13
  generalize (bits BinOp.or IntKind.u64 (IntKind.u64.wrap (IntKind.u64.wrap ca * 4294967296)) (IntKind.u64.wrap cb)) = ρ
  have q6 := q5.setN ⟨k, v, i, lo, hi, s, ρ, x, y, 0⟩
  have b6 := Lib.hid (below_setN HB7.out (show w.heap.size ≤ w.heap.size + 1 + 1 by omega) ⟨k, v, i, lo, hi, s, ρ, x, y, 0⟩)
  change bodyPost _ _ _ _ _ (setN w7 (w.heap.size + 1 + 1) ⟨k, v, i, lo, hi, s, ρ, x, y, 0⟩)
  generalize setN w7 (w.heap.size + 1 + 1) _ = W7 at q6 b6 ⊢
  obtain ⟨c0, c1, c2, c3, c4, c5, c6, c7, c8, c9, c10, c11, c12, c13⟩ := q6.node
  simp only at c0 c1 c2 c3 c4 c5 c6 c7 c8 c9 c10 c11 c12 c13
  exact bodyPost_ret (v := .tuple #[nagg ⟨k, v, i, lo, hi, s, ρ, x, y, 0⟩, .bool true]) (by simp [results, Tryz.results77, go_sem, c0, c1, c2, c3, c4, c5, c6, c7, c8, c9, c10, c11, c12, c13]) rfl ⟨ρ, rfl, b6.out⟩
end
end Go.Proofs.YtghbbpbhbinioaaGreat

namespace Go.Proofs.YtghbbpbhbinioaaGreat
set_option maxRecDepth 100000
set_option linter.unusedSimpArgs false
set_option linter.unusedVariables false
open Go.RowKit
structure Yv where
  b : Nat
  bh : Nat
  ow : Int
  key : Ky
  root : Nat
  A : Option Addr
  n : Nat
  c : Nat
  nd : Nv
  has : Bool
abbrev ycells (x : Yv) : Array Value := #[ap x.b, .pointer (some ⟨x.bh, 0, none⟩), .int .u32 x.ow, .int .u8 x.key.1, .int .i64 x.key.2.1, .string x.key.2.2, .int .i64 (x.root : Nat), .slice x.A x.n x.c, .int .u8 x.nd.key.1, .int .i64 x.nd.key.2.1, .string x.nd.key.2.2, .int .u8 x.nd.val.1, .int .i64 x.nd.val.2.1, .string x.nd.val.2.2, .int .i64 (x.nd.cell : Nat), .pointer x.nd.low, .pointer x.nd.high, .int .i64 (x.nd.shared : Nat), .int .u64 x.nd.rank, .int .i64 (x.nd.kx : Nat), .int .i64 (x.nd.ky : Nat), .int .i64 (x.nd.fresh : Nat), .bool x.has]
abbrev yagg (x : Yv) : Value := .agg (ycells x)
theorem BC.way {W : World} {z : Nat} {x : Yv} (h : BC W z 146 (ycells x)) : W.cell? ⟨z, 0, none⟩ = some (ap x.b) ∧ W.cell? ⟨z, 1, none⟩ = some (.pointer (some ⟨x.bh, 0, none⟩)) ∧ W.cell? ⟨z, 2, none⟩ = some (.int .u32 x.ow) ∧ W.cell? ⟨z, 3, none⟩ = some (.int .u8 x.key.1) ∧ W.cell? ⟨z, 4, none⟩ = some (.int .i64 x.key.2.1) ∧ W.cell? ⟨z, 5, none⟩ = some (.string x.key.2.2) ∧ W.cell? ⟨z, 6, none⟩ = some (.int .i64 (x.root : Nat)) ∧ W.cell? ⟨z, 7, none⟩ = some (.slice x.A x.n x.c) ∧ W.cell? ⟨z, 8, none⟩ = some (.int .u8 x.nd.key.1) ∧ W.cell? ⟨z, 9, none⟩ = some (.int .i64 x.nd.key.2.1) ∧ W.cell? ⟨z, 10, none⟩ = some (.string x.nd.key.2.2) ∧ W.cell? ⟨z, 11, none⟩ = some (.int .u8 x.nd.val.1) ∧ W.cell? ⟨z, 12, none⟩ = some (.int .i64 x.nd.val.2.1) ∧ W.cell? ⟨z, 13, none⟩ = some (.string x.nd.val.2.2) ∧ W.cell? ⟨z, 14, none⟩ = some (.int .i64 (x.nd.cell : Nat)) ∧ W.cell? ⟨z, 15, none⟩ = some (.pointer x.nd.low) ∧ W.cell? ⟨z, 16, none⟩ = some (.pointer x.nd.high) ∧ W.cell? ⟨z, 17, none⟩ = some (.int .i64 (x.nd.shared : Nat)) ∧ W.cell? ⟨z, 18, none⟩ = some (.int .u64 x.nd.rank) ∧ W.cell? ⟨z, 19, none⟩ = some (.int .i64 (x.nd.kx : Nat)) ∧ W.cell? ⟨z, 20, none⟩ = some (.int .i64 (x.nd.ky : Nat)) ∧ W.cell? ⟨z, 21, none⟩ = some (.int .i64 (x.nd.fresh : Nat)) ∧ W.cell? ⟨z, 22, none⟩ = some (.bool x.has) :=
  ⟨h.at rfl, h.at rfl, h.at rfl, h.at rfl, h.at rfl, h.at rfl, h.at rfl, h.at rfl, h.at rfl, h.at rfl, h.at rfl, h.at rfl, h.at rfl, h.at rfl, h.at rfl, h.at rfl, h.at rfl, h.at rfl, h.at rfl, h.at rfl, h.at rfl, h.at rfl, h.at rfl⟩
theorem way_size : (Tryz.prog.info? 146).map (·.size) = some 23 := by kernel_rfl
theorem node_size : (Tryz.prog.info? 144).map (·.size) = some 14 := by kernel_rfl
section
variable {ev : Operand → Value} {o : Oper} {W : World} {p : Operand} {z : Nat} {x : Yv} {n : Nv}
theorem exec_way (ho : o.op = .load 146 p) (hx : ev p = .pointer (some ⟨z, 0, none⟩)) (h : BC W z 146 (ycells x)) : (execOp ev o).run Tryz.prog W = .ok (.value (yagg x)) W := by
  unfold execOp
  simp only [ho, hx, Instr.loadAt, Instr.sureAddr, Sem.run_bind, Sem.run_pure, Result.andThen_ok, run_loadVar_row W z 146 146 (ycells x) (0, 0) _ h Tryz.underlying146 rfl way_size]
theorem exec_node (ho : o.op = .load 144 p) (hx : ev p = .pointer (some ⟨z, 0, none⟩)) (h : BC W z 144 (ncells n)) : (execOp ev o).run Tryz.prog W = .ok (.value (nagg n)) W := by
  unfold execOp
  simp only [ho, hx, Instr.loadAt, Instr.sureAddr, Sem.run_bind, Sem.run_pure, Result.andThen_ok, run_loadVar_row W z 144 144 (ncells n) (0, 0) _ h Tryz.underlying144 rfl node_size]
def RowN (W : World) (g o : Nat) (n : Nv) : Prop := W.rangeAt g o (ncells n).toList
theorem RowN.kp {W W' : World} {G : Nat → Prop} {g o : Nat} {n : Nv} (h : RowN W g o n) (hk : Kp G W W') (hg : ¬ G g) : RowN W' g o n := fun j v hv => hk.cell (h j v hv) hg
theorem exec_row {g o' : Nat} (ho : o.op = .load 144 p) (hx : ev p = .pointer (some ⟨g, o', none⟩)) (h : RowN W g o' n) : (execOp ev o).run Tryz.prog W = .ok (.value (nagg n)) W := by
  unfold execOp
  simp only [ho, hx, run_loadAt_mid W g o' 144 (ncells n).toList _ h Tryz.underlying144 rfl node_size, Sem.run_bind, Result.andThen_ok, Sem.run_pure]
end
def NL (W : World) (A : Option Addr) (l : List Nv) : Prop := l = [] ∨ ∃ g o, A = some ⟨g, o, none⟩ ∧ g < W.heap.size ∧ ∀ i n, l[i]? = some n → RowN W g (o + i * 14) n
theorem NL.nil (W : World) (A : Option Addr) : NL W A [] := .inl rfl
theorem NL.kp {W W' : World} {F : Nat → Prop} {A : Option Addr} {l : List Nv} (h : NL W A l) (hk : Kp F W W') (hF : ∀ a, A = some a → l ≠ [] → ¬ F a.block) : NL W' A l := by
  rcases h with h | ⟨g, o, rfl, hg, hc⟩
  · exact .inl h
  · by_cases hl : l = []
    · exact .inl hl
    · refine .inr ⟨g, o, rfl, Nat.lt_of_lt_of_le hg hk.size, fun i n hi => (hc i n hi).kp hk (hF _ rfl hl)⟩
theorem NL.below {W W' : World} {A : Option Addr} {l : List Nv} (h : NL W A l) (hb : Below W.heap.size W W') : NL W' A l := h.kp (Kp.of_below hb (fun _ => False)) (fun _ _ _ h => h)
theorem NL.head {W : World} {A : Option Addr} {n : Nv} {l : List Nv} (h : NL W A (n :: l)) : ∃ g o, A = some ⟨g, o, none⟩ ∧ g < W.heap.size ∧ RowN W g o n := by
  rcases h with h | ⟨g, o, rfl, hg, hc⟩
  · cases h
  · have h0 := hc 0 n rfl
    rw [Nat.zero_mul, Nat.add_zero] at h0
    exact ⟨g, o, rfl, hg, h0⟩
theorem NL.tail {W : World} {g o : Nat} {n : Nv} {l : List Nv} (h : NL W (some ⟨g, o, none⟩) (n :: l)) : NL W (some ⟨g, o + 14, none⟩) l := by
  rcases h with h | ⟨g', o', e, hg, hc⟩
  · cases h
  · cases e
    refine .inr ⟨g, o + 14, rfl, hg, fun i m hi => ?_⟩
    have := hc (i + 1) m (by simpa using hi)
    rw [show o + 14 + i * 14 = o + (i + 1) * 14 by omega]
    exact this
section
set_option maxHeartbeats 1600000 in
theorem vedit_cell (x : Yv) (n : Nv) (f : FuncId) (caps : Array Value) (R : Value → World → Prop) (w : World)
    (hc : ∀ W z3 z4 z5, Below w.heap.size w W → w.heap.size ≤ z3 → w.heap.size ≤ z4 → w.heap.size ≤ z5 → z3 ≠ z4 → z4 ≠ z5 → BC W z3 146 (ycells x) → BC W z4 144 (ncells n) → C1 W z5 200 (.func (.func f) #[] caps) →
      Calls Tryz.prog 147 #[ap x.b, .int .i64 (n.cell : Nat), .int .u32 x.ow, .func (.func 160) #[] #[.pointer (some ⟨z5, 0, none⟩), .pointer (some ⟨z4, 0, none⟩), .pointer (some ⟨z3, 0, none⟩)]] W fun e W' => ∃ v, e = .returned v ∧ R v W') :
    Calls Tryz.prog 117 #[yagg x, nagg n, .func (.func f) #[] caps] w fun e w' => ∃ v, e = .returned v ∧ R v w' := by
  have e1 : (w.alloc (.cells (ycells x) 146)).heap.size = w.heap.size + 1 := by simp
  have e2 : ((w.alloc (.cells (ycells x) 146)).alloc (.cells (ncells n) 144)).heap.size = w.heap.size + 1 + 1 := by simp
  have hb : Below w.heap.size w (((w.alloc (.cells (ycells x) 146)).alloc (.cells (ncells n) 144)).alloc (.cells #[.func (.func f) #[] caps] 200)) := (((Below.refl _ w).alloc (Nat.le_refl _) _).alloc (by simp) _).alloc (by simp; omega) _
  have q1 := ((BC.new w 146 (ycells x)).alloc (.cells (ncells n) 144)).alloc (.cells #[.func (.func f) #[] caps] 200)
  have q2 := (BC.new (w.alloc (.cells (ycells x) 146)) 144 (ncells n)).alloc (.cells #[.func (.func f) #[] caps] 200)
  have q3 := C1.new ((w.alloc (.cells (ycells x) 146)).alloc (.cells (ncells n) 144)) 200 (.func (.func f) #[] caps)
  rw [e1] at q2
  rw [e2] at q3
  have HC := Lib.hid (hc _ w.heap.size (w.heap.size + 1) (w.heap.size + 1 + 1) hb (Nat.le_refl _) (by omega) (by omega) (by omega) (by omega) q1 q2 q3)
  have x0 := q1.way.1
  have x2 := q1.way.2.2.1
  have y6 := q2.node.2.2.2.2.2.2.1
  clear hc hb e1 e2 q1 q2 q3
  go_enter Tryz.func117, Tryz.ntmps117
  go_upto_region 1 with fail
  change Code.wp _ _ _ _ (((w.alloc (.cells (ycells x) 146)).alloc (.cells (ncells n) 144)).alloc (.cells #[.func (.func f) #[] caps] 200))
  generalize World.alloc (World.alloc (w.alloc _) _) _ = W1 at x0 x2 y6 HC ⊢
  go_wp2_with fail
  refine HC.out.mono ?_
  rintro e w2 ⟨v, rfl, hR⟩
  have HR := Lib.hid hR
  clear hR x0 x2 y6 HC
  go_wp2_with fail
  go_ret
  exact ⟨v, rfl, HR.out⟩
set_option maxHeartbeats 8000000 in
theorem chgY_edit {b most : Nat} {M1 : Cells} {F X : Nat → Prop} (x : Yv) (n : Nv) (z3 z4 z5 : Nat) (f : FuncId) (caps : Array Value) (Rin : Nv → Cells → World → Prop) (c0 : Hc) (w : World) (hRin : ∀ n' M2, Steady F w (Rin n' M2)) (hfe : ∀ (args : Array Value) (W : World), (callFunc f args).run Tryz.prog W = .ok (.enter f args) W) (hX : ∀ q, X q → q < w.heap.size) (h3 : BC w z3 146 (ycells x)) (h4 : BC w z4 144 (ncells n)) (h5 : C1 w z5 200 (.func (.func f) #[] caps)) (n3 : ¬ F z3 ∧ ¬ X z3) (n4 : ¬ F z4) (n5 : ¬ F z5)
    (hch : ∀ (W : World) (F1 : Nat → Prop), Rn w W b most M1 F F1 → BC W z4 144 (ncells n) → Calls Tryz.prog f (#[.pointer (some ⟨z4, 0, none⟩)] ++ caps) W fun e W' => ∃ r n' M2 F2, e = .returned r ∧ BC W' z4 144 (ncells n') ∧ RnY W W' b most M2 F1 X F2 ∧ Rin n' M2 W') :
    ChgY 160 #[.pointer (some ⟨z5, 0, none⟩), .pointer (some ⟨z4, 0, none⟩), .pointer (some ⟨z3, 0, none⟩)] b most F X x.ow w M1 c0 (fun c' M2 W => ∃ n', Rin n' M2 W ∧ c'.vals = [n'.key, n'.val] ∧ c'.kids = [n'.kx, n'.ky]) := by
  intro v k W F1 hRn nv nk o1 o2
  obtain ⟨o, ho⟩ : ∃ o, o = x.ow := ⟨_, rfl⟩
  rw [← ho]
  obtain ⟨A1, m1, rfl, _⟩ := (Rd.of_own o1).form
  obtain ⟨A2, m2, rfl, _⟩ := (Rd.of_own o2).form
  have nF1 : ∀ z, z < w.heap.size → ¬ F z → ¬ F1 z := fun z hz hn hf => (hRn.sub z hf).elim hn (fun h => by omega)
  have q3 := h3.kp hRn.kp n3.1
  have q4 := h4.kp hRn.kp n4
  have q5 := h5.kp hRn.kp n5
  have hb : Below W.heap.size W ((W.alloc (.cells #[.int .u32 o, .int .u32 c0.a, .int .u32 c0.b, .slice A1 c0.vals.length m1, .slice A2 c0.kids.length m2] 94)).alloc (.cells #[.int .u32 0, .int .u32 0, .int .u32 0, .slice none 0 0, .slice none 0 0] 94)) := ((Below.refl _ W).alloc (Nat.le_refl _) _).alloc (by simp) _
  have q6 := C5.new (W.alloc (.cells #[.int .u32 o, .int .u32 c0.a, .int .u32 c0.b, .slice A1 c0.vals.length m1, .slice A2 c0.kids.length m2] 94)) 94 (.int .u32 0) (.int .u32 0) (.int .u32 0) (.slice none 0 0) (.slice none 0 0)
  have e1 : (W.alloc (.cells #[.int .u32 o, .int .u32 c0.a, .int .u32 c0.b, .slice A1 c0.vals.length m1, .slice A2 c0.kids.length m2] 94)).heap.size = W.heap.size + 1 := by simp
  rw [e1] at q6
  have HO := Lib.hid ho
  clear ho
  have RN := Lib.hid (hRn.mine (Kp.of_below hb (fun _ => False)) (fun _ h => h.elim))
  have q5' := q5.below hb
  have HCH := Lib.hid (hch _ F1 RN.out (q4.below hb))
  have HW := Lib.hid (show w.heap.size ≤ W.heap.size ∧ z3 < w.heap.size ∧ z4 < w.heap.size from ⟨hRn.kp.size, h3.lt, h4.lt⟩)
  have HF1 := Lib.hid (And.intro (nF1 z3 h3.lt n3.1) (show ∀ q, F1 q → q < W.heap.size from fun q hq => hRn.ar.lt hq))
  have HX := Lib.hid hX
  have Q3 := Lib.hid (q3.below hb)
  have N3 := Lib.hid n3
  clear hRn nv nk o1 o2 h3 h4 h5 n3 n4 n5 nF1 q3 q4 q5 e1 hch hX
  show Calls Tryz.prog 160 #[cagg o c0.a c0.b (.slice A1 c0.vals.length m1) (.slice A2 c0.kids.length m2), .pointer (some ⟨z5, 0, none⟩), .pointer (some ⟨z4, 0, none⟩), .pointer (some ⟨z3, 0, none⟩)] W _
  go_enter Tryz.func160, Tryz.ntmps160
  go_upto_region 1 with fail
  generalize World.alloc (W.alloc _) _ = W1 at q5' q6 RN HCH Q3 hb ⊢
  have x5 := q5'.c0
  have HB := Lib.hid hb.size
  have HL1 := Lib.hid (show W.heap.size + 1 < W1.heap.size from q6.lt)
  clear hb q5'
  go_wp2_with fail
  refine HCH.out.mono ?_
  rintro e W2 ⟨r, n', M2, F2, rfl, q4, rn2, hrin⟩
  have q3 := Q3.out.kp rn2.kp (fun h => h.elim HF1.out.1 N3.out.2)
  replace q6 := q6.kp rn2.kp (fun h => h.elim (fun h => by have := HF1.out.2 _ h; omega) (fun h => by have := HX.out _ h; have := HW.out.1; omega))
  have HR := Lib.hid (And.intro (RnY.of_rn RN.out rn2) (And.intro hrin (And.intro rn2.sub (Nat.le_trans HB.out rn2.kp.size))))
  have HS1 := Lib.hid (show W.heap.size + 1 < W2.heap.size from q6.lt)
  clear rn2 hrin HCH x5 Q3
  obtain ⟨c0', c1, c2, c3, c4, c5, c6, c7, c8, c9, c10, c11, c12, c13⟩ := q4.node
  have x2 := q3.way.2.2.1
  have HP := Lib.hid (npack n' x.ow W2)
  have Q6 := Lib.hid q6
  clear q6 q3 q4
  go_wp2_with fail
  refine HP.out.mono ?_
  rintro e W3 ⟨a, d, g, g', rfl, r1, r2, l1, l2, hb3⟩
  have q7 := Q6.out.below hb3
  clear c0' c1 c2 c3 c4 c5 c6 c7 c8 c9 c10 c11 c12 c13 x2 Q6 HP
  obtain ⟨d0, d1, d2, d3, d4, f0, f1, f2, f3, f4⟩ := q7.all
  have HQ := Lib.hid (And.intro r1 (And.intro r2 (And.intro l1 (And.intro l2 hb3))))
  clear r1 r2 l1 l2 hb3
  go_wp2_with fail
  clear d0 d1 d2 d3 d4 f0 f1 f2 f3 f4
  have q8 : C5 (((((W3.setCell ⟨W.heap.size + 1, 0, none⟩ (.int .u32 x.ow)).setCell ⟨W.heap.size + 1, 1, none⟩ (.int .u32 a)).setCell ⟨W.heap.size + 1, 2, none⟩ (.int .u32 d)).setCell ⟨W.heap.size + 1, 3, none⟩ (.slice (some ⟨g, 0, none⟩) 2 2)).setCell ⟨W.heap.size + 1, 4, none⟩ (.slice (some ⟨g', 11, none⟩) 2 2)) (W.heap.size + 1) 94 (.int .u32 x.ow) (.int .u32 a) (.int .u32 d) (.slice (some ⟨g, 0, none⟩) 2 2) (.slice (some ⟨g', 11, none⟩) 2 2) := ((((q7.set0 _).set1 _).set2 _).set3 _).set4 _
  have kz : Kp (fun q => q = W.heap.size + 1) W3 (((((W3.setCell ⟨W.heap.size + 1, 0, none⟩ (.int .u32 x.ow)).setCell ⟨W.heap.size + 1, 1, none⟩ (.int .u32 a)).setCell ⟨W.heap.size + 1, 2, none⟩ (.int .u32 d)).setCell ⟨W.heap.size + 1, 3, none⟩ (.slice (some ⟨g, 0, none⟩) 2 2)).setCell ⟨W.heap.size + 1, 4, none⟩ (.slice (some ⟨g', 11, none⟩) 2 2)) := (((((Kp.refl (fun q => q = W.heap.size + 1) W3).setCell (.inl rfl) _).setCell (.inl rfl) _).setCell (.inl rfl) _).setCell (.inl rfl) _).setCell (.inl rfl) _
  change bodyPost _ _ _ _ _ (((((W3.setCell ⟨W.heap.size + 1, 0, none⟩ (.int .u32 x.ow)).setCell ⟨W.heap.size + 1, 1, none⟩ (.int .u32 a)).setCell ⟨W.heap.size + 1, 2, none⟩ (.int .u32 d)).setCell ⟨W.heap.size + 1, 3, none⟩ (.slice (some ⟨g, 0, none⟩) 2 2)).setCell ⟨W.heap.size + 1, 4, none⟩ (.slice (some ⟨g', 11, none⟩) 2 2))
  generalize ((((W3.setCell ⟨W.heap.size + 1, 0, none⟩ (.int .u32 x.ow)).setCell ⟨W.heap.size + 1, 1, none⟩ (.int .u32 a)).setCell ⟨W.heap.size + 1, 2, none⟩ (.int .u32 d)).setCell ⟨W.heap.size + 1, 3, none⟩ (.slice (some ⟨g, 0, none⟩) 2 2)).setCell ⟨W.heap.size + 1, 4, none⟩ (.slice (some ⟨g', 11, none⟩) 2 2) = W4 at q8 kz ⊢
  obtain ⟨r1, r2, l1, l2, hb3⟩ := HQ.out
  have hs1 := HS1.out
  have hl1 := HL1.out
  have hF2 : ∀ q, F2 q → q < W2.heap.size := fun q hq => HR.out.1.ar.lt hq
  have t1 := kz.rd r1 (fun q hq => by cases hq; show ¬ g = _; omega)
  have t2 := kz.rd r2 (fun q hq => by cases hq; show ¬ g' = _; omega)
  have hn5 : w.heap.size ≤ W.heap.size + 1 ∧ ¬ F2 (W.heap.size + 1) := ⟨by have := HW.out.1; omega, fun hf => (HR.out.2.2.1 _ hf).elim (fun h => by have := HF1.out.2 _ h; omega) (fun h => by omega)⟩
  have rn4 : RnY w W4 b most M2 F X F2 := (HR.out.1.mine (Kp.of_below hb3 (fun _ => False)) (fun _ h => h.elim)).mine kz (fun q hq => by rw [hq]; exact hn5)
  obtain ⟨d0, d1, d2, d3, d4, _⟩ := q8.all
  obtain rfl := HO.out
  exact bodyPost_ret (v := cagg x.ow a d (.slice (some ⟨g, 0, none⟩) 2 2) (.slice (some ⟨g', 11, none⟩) 2 2)) (by simp [results, Tryz.results160, go_sem, d0, d1, d2, d3, d4]) rfl ⟨_, _, ⟨0, a, d, [n'.key, n'.val], [n'.kx, n'.ky]⟩, M2, F2, rfl, t1, t2, rn4, fun q hq hf => by cases hq; have := hF2 _ hf; simp only at this; omega, fun q hq hf => by cases hq; have := hF2 _ hf; simp only at this; omega, n', hRin n' M2 _ _ _ (hRin n' M2 _ _ _ HR.out.2.1 (Kp.of_below hb3 (fun _ => False)) (fun _ h => h.elim)) kz (fun q hq => .inr (by rw [hq]; exact hn5.1)), rfl, rfl⟩
end
end Go.Proofs.YtghbbpbhbinioaaGreat

/- Several texts in one. -/
import Derived.Test.YtaapcfoaaopihaaGreatMt24
import Derived.Test.YtaapcfoaaopihaaGreatMt23
import Derived.IntWalk
import Derived.Test.YtaapcfoaaopihaaGreatMt11
set_option linter.unusedSimpArgs false
namespace Go.Proofs.YtaapcfoaaopihaaGreat
set_option maxRecDepth 100000
set_option linter.unusedSimpArgs false
set_option linter.unusedVariables false
open Go.RowKit
abbrev zfin (k : Ky) : Array Value := #[.pointer none, .pointer none, .int .u32 0, .int .u8 k.1, .int .i64 k.2.1, .string k.2.2, .int .i64 0, .slice none 0 0, .int .u8 0, .int .i64 0, .string ⟨#[]⟩, .int .u8 0, .int .i64 0, .string ⟨#[]⟩, .int .i64 0, .pointer none, .pointer none, .int .i64 0, .int .u64 0, .int .i64 0, .int .i64 0, .int .i64 1, .bool false]
theorem znil_one (k : Ky) : (znil k).all (fun v => v.oneCell') = true := by simp [Value.oneCell']
theorem zfin_one (k : Ky) : (zfin k).all (fun v => v.oneCell') = true := by simp [Value.oneCell']
section
set_option maxHeartbeats 8000000 in
theorem wayTo_nil (k : Ky) (w : World) :
    Calls Tryz.prog 82 #[lan none none, .agg #[.int .i64 0, .int .i64 0], xagg k, .int .u32 0] w fun e w' => e = .returned (.agg (zfin k)) ∧ Below w.heap.size w w' := by
  obtain ⟨W0, hW0⟩ : ∃ W0, W0 = ((((w.alloc (.cells #[.pointer none, .pointer none] 26)).alloc (.cells #[.int .i64 0, .int .i64 0] 72)).alloc (.cells #[.int .u8 k.1, .int .i64 k.2.1, .string k.2.2] 36)).alloc (.cells #[.pointer none, .pointer none, .int .u32 0, .int .u8 0, .int .i64 0, .string ⟨#[]⟩, .int .i64 0, .slice none 0 0, .int .u8 0, .int .i64 0, .string ⟨#[]⟩, .int .u8 0, .int .i64 0, .string ⟨#[]⟩, .int .i64 0, .pointer none, .pointer none, .int .i64 0, .int .u64 0, .int .i64 0, .int .i64 0, .int .i64 0, .bool false] 164)) := ⟨_, rfl⟩
  have hsz : W0.heap.size = w.heap.size + 1 + 1 + 1 + 1 := by rw [hW0]; simp
  have hb0 : Below w.heap.size w W0 := by rw [hW0]; exact ((((Below.refl _ w).alloc (Nat.le_refl _) _).alloc (by simp) _).alloc (by simp; omega) _).alloc (by simp; omega) _
  have q1 : C2 W0 w.heap.size 26 (.pointer none) (.pointer none) := by rw [hW0]; exact (((C2.new w 26 (.pointer none) (.pointer none)).alloc _).alloc _).alloc _
  have q2 : C2 W0 (w.heap.size + 1) 72 (.int .i64 0) (.int .i64 0) := by
    have h := ((C2.new (w.alloc (.cells #[.pointer none, .pointer none] 26)) 72 (.int .i64 0) (.int .i64 0)).alloc (.cells #[.int .u8 k.1, .int .i64 k.2.1, .string k.2.2] 36)).alloc (.cells #[.pointer none, .pointer none, .int .u32 0, .int .u8 0, .int .i64 0, .string ⟨#[]⟩, .int .i64 0, .slice none 0 0, .int .u8 0, .int .i64 0, .string ⟨#[]⟩, .int .u8 0, .int .i64 0, .string ⟨#[]⟩, .int .i64 0, .pointer none, .pointer none, .int .i64 0, .int .u64 0, .int .i64 0, .int .i64 0, .int .i64 0, .bool false] 164)
    rw [hW0]
    simpa using h
  have q3 : C3 W0 (w.heap.size + 1 + 1) 36 (.int .u8 k.1) (.int .i64 k.2.1) (.string k.2.2) := by
    have h := (C3.new ((w.alloc (.cells #[.pointer none, .pointer none] 26)).alloc (.cells #[.int .i64 0, .int .i64 0] 72)) 36 (.int .u8 k.1) (.int .i64 k.2.1) (.string k.2.2)).alloc (.cells #[.pointer none, .pointer none, .int .u32 0, .int .u8 0, .int .i64 0, .string ⟨#[]⟩, .int .i64 0, .slice none 0 0, .int .u8 0, .int .i64 0, .string ⟨#[]⟩, .int .u8 0, .int .i64 0, .string ⟨#[]⟩, .int .i64 0, .pointer none, .pointer none, .int .i64 0, .int .u64 0, .int .i64 0, .int .i64 0, .int .i64 0, .bool false] 164)
    rw [hW0]
    simpa using h
  have q4 : BC W0 (w.heap.size + 1 + 1 + 1) 164 #[.pointer none, .pointer none, .int .u32 0, .int .u8 0, .int .i64 0, .string ⟨#[]⟩, .int .i64 0, .slice none 0 0, .int .u8 0, .int .i64 0, .string ⟨#[]⟩, .int .u8 0, .int .i64 0, .string ⟨#[]⟩, .int .i64 0, .pointer none, .pointer none, .int .i64 0, .int .u64 0, .int .i64 0, .int .i64 0, .int .i64 0, .bool false] := by
    have h := BC.new (((w.alloc (.cells #[.pointer none, .pointer none] 26)).alloc (.cells #[.int .i64 0, .int .i64 0] 72)).alloc (.cells #[.int .u8 k.1, .int .i64 k.2.1, .string k.2.2] 36)) 164 #[.pointer none, .pointer none, .int .u32 0, .int .u8 0, .int .i64 0, .string ⟨#[]⟩, .int .i64 0, .slice none 0 0, .int .u8 0, .int .i64 0, .string ⟨#[]⟩, .int .u8 0, .int .i64 0, .string ⟨#[]⟩, .int .i64 0, .pointer none, .pointer none, .int .i64 0, .int .u64 0, .int .i64 0, .int .i64 0, .int .i64 0, .bool false]
    rw [hW0]
    simpa using h
  obtain ⟨z4, hz4⟩ : ∃ z, z = w.heap.size := ⟨_, rfl⟩
  obtain ⟨z5, hz5⟩ : ∃ z, z = w.heap.size + 1 := ⟨_, rfl⟩
  obtain ⟨z6, hz6⟩ : ∃ z, z = w.heap.size + 1 + 1 := ⟨_, rfl⟩
  obtain ⟨z8, hz8⟩ : ∃ z, z = w.heap.size + 1 + 1 + 1 := ⟨_, rfl⟩
  have HW0 := Lib.hid hW0
  have HZZ := Lib.hid (And.intro hz4 (And.intro hz5 (And.intro hz6 hz8)))
  have ZL := Lib.hid (show z8 = w.heap.size + 3 ∧ W0.heap.size = w.heap.size + 4 from ⟨hz8, hsz⟩)
  rw [← hz8] at q4
  rw [← hz4] at q1
  rw [← hz5] at q2
  rw [← hz6] at q3
  have HB0 := Lib.hid hb0
  obtain ⟨x0, x1, _⟩ := q1.all
  obtain ⟨x2, x3, _⟩ := q2.all
  obtain ⟨x4, x5, x6, _⟩ := q3.all
  have Q4 := Lib.hid q4
  have Q2 := Lib.hid q2
  clear hW0 hb0 hsz q1 q2 q3 q4 hz4 hz5 hz6 hz8
  go_enter Tryz.func82, Tryz.ntmps82
  go_upto_region 1 with fail
  rw [← HW0.out]
  clear HW0
  obtain ⟨e1, e2, e3, e4⟩ := HZZ.out
  rw [← e4, ← e3, ← e2, ← e1]
  clear e1 e2 e3 e4 HZZ
  go_upto_region 2 with (first | (refine wpList_build_to rfl _ _ rfl (znil k) (by kernel_rfl) ?_) | (refine wpList_store_whole rfl _ _ _ rfl W0.heap.size _ _ (znil k) rfl rfl (BC.new W0 _ _) rfl way_size (znil_one _) ?_))
  intro W1 q9 k1
  have hb1 : Below W0.heap.size W0 W1 := (((Kp.refl (fun q => q = W0.heap.size) W0).alloc _).trans k1 (fun _ e => .inl e)).below (fun _ e => by omega)
  have y3 := (Q2.out.below hb1).c1
  have HB1 := Lib.hid (HB0.out.trans (hb1.mono HB0.out.size))
  have Q8 := Lib.hid (Q4.out.below hb1)
  clear k1 hb1 x0 x1 x2 x3 x4 x5 x6 Q4 Q2 HB0
  obtain ⟨z9, hz9⟩ : ∃ z, z = W0.heap.size := ⟨_, rfl⟩
  rw [← hz9] at q9 ⊢
  have HZ9 := Lib.hid (show z9 = w.heap.size + 4 by rw [hz9]; exact ZL.out.2)
  clear hz9
  have HQ9 := Lib.hid q9
  clear q9
  go_wp2_with (refine wpList_load_whole rfl _ _ rfl z9 _ rfl (znil k) _ HQ9.out Tryz.underlying164 rfl way_size ?_)
  refine (wread_nil k W1).mono ?_
  rintro e w2 ⟨rfl, hb2⟩
  have hb3 : Below w2.heap.size w2 (w2.alloc (.cells (ncells nz1) 162)) := (Below.refl _ w2).alloc (Nat.le_refl _) _
  have hb4 := hb2.trans (hb3.mono hb2.size)
  have HLK := Lib.hid (And.intro (Q8.out.below hb4) (And.intro (HQ9.out.below hb4) (And.intro (BC.new w2 162 (ncells nz1)) (HB1.out.trans (hb4.mono HB1.out.size)))))
  have HS := Lib.hid (show z9 < w2.heap.size by have := HQ9.out.lt; have := hb2.size; omega)
  have q9 := BC.new w2 162 (ncells nzero)
  obtain ⟨f0, f1, f2, f3, f4, f5, f6, f7, f8, f9, f10, f11, f12, f13⟩ := q9.fz14
  obtain ⟨c0, c1, c2, c3, c4, c5, c6, c7, c8, c9, c10, c11, c12, c13⟩ := q9.node
  clear hb2 hb3 hb4 q9 y3
  simp only at c0 c1 c2 c3 c4 c5 c6 c7 c8 c9 c10 c11 c12 c13
  go_wp2_with fail
  clear c0 c1 c2 c3 c4 c5 c6 c7 c8 c9 c10 c11 c12 c13 f0 f1 f2 f3 f4 f5 f6 f7 f8 f9 f10 f11 f12 f13
  change Code.wp _ _ _ _ (w2.alloc (.cells (ncells nz1) 162))
  obtain ⟨z10, hz10⟩ : ∃ z, z = w2.heap.size := ⟨_, rfl⟩
  rw [← hz10] at HLK HS ⊢
  clear hz10
  generalize w2.alloc _ = W2 at HLK ⊢
  clear Q8 HB1 HQ9
  go_loopg [11] 0 (fun c' s11 wr => s11 = .bool false ∧ wr = W2)
  case atStart => exact ⟨rfl, rfl⟩
  case round =>
    obtain ⟨rfl, rfl⟩ := hrel
    go_wp2_with (first | (refine wpList_load_whole rfl _ _ rfl z10 _ rfl (ncells nz1) _ HLK.out.2.2.1 Tryz.underlying162 rfl node_size ?_) | (refine wpList_store_part rfl _ _ _ rfl z9 8 _ _ (ncells nz1) rfl rfl HLK.out.2.1 (show 8 + 14 ≤ 23 by decide) node_size (ncells_one _) ?_))
    intro W7 q7 k7
    have q7' : BC W7 z9 164 (zfin k) := by
      simp only [setA, List.setIfInBounds_toArray, List.set_cons_zero, List.set_cons_succ] at q7
      exact q7
    have HQ7 := Lib.hid (And.intro q7' k7)
    have c22 : W7.cell? ⟨z9, 22, none⟩ = some (.bool false) := q7'.at rfl
    have f22 := q7'.fz 22
    clear q7 q7' k7
    go_upto_region 7 with fail
    have q8 : BC (W7.setCell ⟨z9, 22, none⟩ (.bool false)) z9 164 (zfin k) := by
      have := HQ7.out.1.set 22 (.bool false)
      simp only [List.setIfInBounds_toArray, List.set_cons_zero, List.set_cons_succ] at this
      exact this
    have k8 : Kp (fun q => q = z9) wr (W7.setCell ⟨z9, 22, none⟩ (.bool false)) := HQ7.out.2.setCell (.inl rfl) _
    have HQ8 := Lib.hid (And.intro q8 k8)
    clear q8 k8 c22 f22 HQ7
    generalize W7.setCell _ _ = W8 at HQ8 ⊢
    have HRS := Lib.hid (HLK.out.1.kp HQ8.out.2 (by have := ZL.out; have := HZ9.out; omega))
    go_wp2_with (first | (refine wpList_load_whole rfl _ _ rfl z9 _ rfl (zfin k) _ HQ8.out.1 Tryz.underlying164 rfl way_size ?_) | (refine wpList_store_whole rfl _ _ _ rfl z8 _ _ (zfin k) rfl rfl HRS.out rfl way_size (zfin_one _) ?_))
    intro W9 q9 k9
    have kk : Kp (fun q => q = z9 ∨ q = z8) wr W9 := (HQ8.out.2.mono (fun _ h _ => .inl h)).trans (k9.mono (fun _ h _ => .inr h)) (fun _ => .inl)
    have HFIN := Lib.hid (And.intro q9 (show Below w.heap.size w W9 from below_kp HLK.out.2.2.2 kk (fun q hq => by have := ZL.out; have := HZ9.out; omega)))
    clear q9 kk k9 HRS HQ8
    go_wp2_with fail
    exact bodyPost_ret (v := .agg (zfin k)) (by exact results_cell_row rfl _ _ z8 _ _ (0, 0) _ rfl HFIN.out.1 Tryz.underlying164 rfl way_size) rfl ⟨rfl, HFIN.out.2⟩
set_option maxHeartbeats 4000000 in
theorem tTake_nil (k : Ky) (w : World) :
    Calls Tryz.prog 45 #[lan none none, .agg #[.int .i64 0, .int .i64 0], xagg k, .int .u32 0] w fun e w' => e = .returned (.tuple #[.agg #[.int .i64 0, .int .i64 0], .int .i64 4]) ∧ Below w.heap.size w w' := by
  obtain ⟨W0, hW0⟩ : ∃ W0, W0 = ((((w.alloc (.cells #[.pointer none, .pointer none] 26)).alloc (.cells #[.int .i64 0, .int .i64 0] 72)).alloc (.cells #[.int .u8 k.1, .int .i64 k.2.1, .string k.2.2] 36)).alloc (.cells #[.int .i64 0, .int .i64 0] 72)) := ⟨_, rfl⟩
  have hsz : W0.heap.size = w.heap.size + 1 + 1 + 1 + 1 := by rw [hW0]; simp
  have hb0 : Below w.heap.size w W0 := by rw [hW0]; exact ((((Below.refl _ w).alloc (Nat.le_refl _) _).alloc (by simp) _).alloc (by simp; omega) _).alloc (by simp; omega) _
  have q1 : C2 W0 w.heap.size 26 (.pointer none) (.pointer none) := by rw [hW0]; exact (((C2.new w 26 (.pointer none) (.pointer none)).alloc _).alloc _).alloc _
  have q2 : C2 W0 (w.heap.size + 1) 72 (.int .i64 0) (.int .i64 0) := by
    have h := ((C2.new (w.alloc (.cells #[.pointer none, .pointer none] 26)) 72 (.int .i64 0) (.int .i64 0)).alloc (.cells #[.int .u8 k.1, .int .i64 k.2.1, .string k.2.2] 36)).alloc (.cells #[.int .i64 0, .int .i64 0] 72)
    rw [hW0]
    simpa using h
  have q3 : C3 W0 (w.heap.size + 1 + 1) 36 (.int .u8 k.1) (.int .i64 k.2.1) (.string k.2.2) := by
    have h := (C3.new ((w.alloc (.cells #[.pointer none, .pointer none] 26)).alloc (.cells #[.int .i64 0, .int .i64 0] 72)) 36 (.int .u8 k.1) (.int .i64 k.2.1) (.string k.2.2)).alloc (.cells #[.int .i64 0, .int .i64 0] 72)
    rw [hW0]
    simpa using h
  have q4 : C2 W0 (w.heap.size + 1 + 1 + 1) 72 (.int .i64 0) (.int .i64 0) := by
    have h := C2.new (((w.alloc (.cells #[.pointer none, .pointer none] 26)).alloc (.cells #[.int .i64 0, .int .i64 0] 72)).alloc (.cells #[.int .u8 k.1, .int .i64 k.2.1, .string k.2.2] 36)) 72 (.int .i64 0) (.int .i64 0)
    rw [hW0]
    simpa using h
  obtain ⟨z4, hz4⟩ : ∃ z, z = w.heap.size := ⟨_, rfl⟩
  obtain ⟨z5, hz5⟩ : ∃ z, z = w.heap.size + 1 := ⟨_, rfl⟩
  obtain ⟨z6, hz6⟩ : ∃ z, z = w.heap.size + 1 + 1 := ⟨_, rfl⟩
  obtain ⟨z8, hz8⟩ : ∃ z, z = w.heap.size + 1 + 1 + 1 := ⟨_, rfl⟩
  have HW0 := Lib.hid hW0
  have HZZ := Lib.hid (And.intro hz4 (And.intro hz5 (And.intro hz6 hz8)))
  have ZL := Lib.hid (show z8 = w.heap.size + 3 ∧ W0.heap.size = w.heap.size + 4 from ⟨hz8, hsz⟩)
  rw [← hz8] at q4
  rw [← hz4] at q1
  rw [← hz5] at q2
  rw [← hz6] at q3
  have HB0 := Lib.hid hb0
  obtain ⟨x0, x1, _⟩ := q1.all
  obtain ⟨x2, x3, _⟩ := q2.all
  obtain ⟨x4, x5, x6, _⟩ := q3.all
  have Q4 := Lib.hid q4
  have Q2 := Lib.hid q2
  clear hW0 hb0 hsz q1 q2 q3 q4 hz4 hz5 hz6 hz8
  go_enter Tryz.func45, Tryz.ntmps45
  go_upto_region 1 with fail
  rw [← HW0.out]
  clear HW0
  obtain ⟨e1, e2, e3, e4⟩ := HZZ.out
  rw [← e4, ← e3, ← e2, ← e1]
  clear e1 e2 e3 e4 HZZ
  go_wp2_with fail
  refine (wayTo_nil k W0).mono ?_
  rintro e w2 ⟨rfl, hb2⟩
  have HB2 := Lib.hid (HB0.out.trans (hb2.mono HB0.out.size))
  have Q8 := Lib.hid (Q4.out.below hb2)
  have HS := Lib.hid hb2.size
  clear hb2 x0 x1 x2 x3 x4 x5 x6 Q4 Q2 HB0
  go_upto_region 2 with (refine wpList_store_whole rfl _ _ _ rfl w2.heap.size _ _ (zfin k) rfl rfl (BC.new w2 _ _) rfl way_size (zfin_one _) ?_)
  intro W3 q12 k3
  have hb3 : Below w2.heap.size w2 W3 := (((Kp.refl (fun q => q = w2.heap.size) w2).alloc _).trans k3 (fun _ e => .inl e)).below (fun _ e => by omega)
  have x22 : W3.cell? ⟨w2.heap.size, 22, none⟩ = some (.bool false) := q12.at rfl
  obtain ⟨r0, r1, g0, g1⟩ := (Q8.out.below hb3).all
  have FIN := Lib.hid (fun w9 (h9 : Kp (fun q => q = z8) W3 w9) => (show Below w.heap.size w w9 from below_kp (HB2.out.trans (hb3.mono HB2.out.size)) h9 (fun q e => by have := ZL.out; omega)))
  clear k3 q12 hb3 HB2 Q8
  go_wp2_with fail
  refine bodyPost_ret (v := .tuple #[.agg #[.int .i64 0, .int .i64 0], .int .i64 4]) (by simp [results, Tryz.results45, go_sem, r0, r1]) rfl ⟨rfl, FIN.out _ ?_⟩
  repeat first
    | with_reducible exact Kp.refl _ _
    | with_reducible refine Kp.setCell ?_ (by simp) _
set_option maxHeartbeats 4000000 in
theorem tLook_nil (k : Ky) (w : World) :
    Calls Tryz.prog 44 #[lan none none, .agg #[.int .i64 0, .int .i64 0], xagg k] w fun e w' => e = .returned (.tuple #[xagg noV, .bool false]) ∧ Below w.heap.size w w' := by
  obtain ⟨W0, hW0⟩ : ∃ W0, W0 = ((((w.alloc (.cells #[.pointer none, .pointer none] 26)).alloc (.cells #[.int .i64 0, .int .i64 0] 72)).alloc (.cells #[.int .u8 k.1, .int .i64 k.2.1, .string k.2.2] 36)).alloc (.cells #[.int .u8 0, .int .i64 0, .string ⟨#[]⟩] 36)) := ⟨_, rfl⟩
  have hsz : W0.heap.size = w.heap.size + 1 + 1 + 1 + 1 := by rw [hW0]; simp
  have hb0 : Below w.heap.size w W0 := by rw [hW0]; exact ((((Below.refl _ w).alloc (Nat.le_refl _) _).alloc (by simp) _).alloc (by simp; omega) _).alloc (by simp; omega) _
  have q1 : C2 W0 w.heap.size 26 (.pointer none) (.pointer none) := by rw [hW0]; exact (((C2.new w 26 (.pointer none) (.pointer none)).alloc _).alloc _).alloc _
  have q2 : C2 W0 (w.heap.size + 1) 72 (.int .i64 0) (.int .i64 0) := by
    have h := ((C2.new (w.alloc (.cells #[.pointer none, .pointer none] 26)) 72 (.int .i64 0) (.int .i64 0)).alloc (.cells #[.int .u8 k.1, .int .i64 k.2.1, .string k.2.2] 36)).alloc (.cells #[.int .u8 0, .int .i64 0, .string ⟨#[]⟩] 36)
    rw [hW0]
    simpa using h
  have q3 : C3 W0 (w.heap.size + 1 + 1) 36 (.int .u8 k.1) (.int .i64 k.2.1) (.string k.2.2) := by
    have h := (C3.new ((w.alloc (.cells #[.pointer none, .pointer none] 26)).alloc (.cells #[.int .i64 0, .int .i64 0] 72)) 36 (.int .u8 k.1) (.int .i64 k.2.1) (.string k.2.2)).alloc (.cells #[.int .u8 0, .int .i64 0, .string ⟨#[]⟩] 36)
    rw [hW0]
    simpa using h
  have q4 : C3 W0 (w.heap.size + 1 + 1 + 1) 36 (.int .u8 0) (.int .i64 0) (.string ⟨#[]⟩) := by
    have h := C3.new (((w.alloc (.cells #[.pointer none, .pointer none] 26)).alloc (.cells #[.int .i64 0, .int .i64 0] 72)).alloc (.cells #[.int .u8 k.1, .int .i64 k.2.1, .string k.2.2] 36)) 36 (.int .u8 0) (.int .i64 0) (.string ⟨#[]⟩)
    rw [hW0]
    simpa using h
  obtain ⟨z4, hz4⟩ : ∃ z, z = w.heap.size := ⟨_, rfl⟩
  obtain ⟨z5, hz5⟩ : ∃ z, z = w.heap.size + 1 := ⟨_, rfl⟩
  obtain ⟨z6, hz6⟩ : ∃ z, z = w.heap.size + 1 + 1 := ⟨_, rfl⟩
  obtain ⟨z8, hz8⟩ : ∃ z, z = w.heap.size + 1 + 1 + 1 := ⟨_, rfl⟩
  have HW0 := Lib.hid hW0
  have HZZ := Lib.hid (And.intro hz4 (And.intro hz5 (And.intro hz6 hz8)))
  have ZL := Lib.hid (show z8 = w.heap.size + 3 ∧ W0.heap.size = w.heap.size + 4 from ⟨hz8, hsz⟩)
  rw [← hz8] at q4
  rw [← hz4] at q1
  rw [← hz5] at q2
  rw [← hz6] at q3
  have HB0 := Lib.hid hb0
  obtain ⟨x0, x1, _⟩ := q1.all
  obtain ⟨x2, x3, _⟩ := q2.all
  obtain ⟨x4, x5, x6, _⟩ := q3.all
  have Q4 := Lib.hid q4
  have Q2 := Lib.hid q2
  clear hW0 hb0 hsz q1 q2 q3 q4 hz4 hz5 hz6 hz8
  go_enter Tryz.func44, Tryz.ntmps44
  go_upto_region 1 with fail
  rw [← HW0.out]
  clear HW0
  obtain ⟨e1, e2, e3, e4⟩ := HZZ.out
  rw [← e4, ← e3, ← e2, ← e1]
  clear e1 e2 e3 e4 HZZ
  go_wp2_with fail
  refine (tread_nil 0 0 none none W0).mono ?_
  rintro e w2 ⟨rfl, hb2⟩
  have hb3 : Below w2.heap.size w2 (w2.alloc (.cells (ncells nzero) 162)) := (Below.refl _ w2).alloc (Nat.le_refl _) _
  have hb4 := hb2.trans (hb3.mono hb2.size)
  have HLK := Lib.hid (And.intro (Q4.out.below hb4) (And.intro (BC.new w2 162 (ncells nzero)) (HB0.out.trans (hb4.mono HB0.out.size))))
  have q9 := BC.new w2 162 (ncells nzero)
  obtain ⟨f0, f1, f2, f3, f4, f5, f6, f7, f8, f9, f10, f11, f12, f13⟩ := q9.fz14
  obtain ⟨c0, c1, c2, c3, c4, c5, c6, c7, c8, c9, c10, c11, c12, c13⟩ := q9.node
  clear hb2 hb3 hb4 q9 x0 x1 x2 x3 x4 x5 x6 Q4 Q2 HB0
  simp only at c0 c1 c2 c3 c4 c5 c6 c7 c8 c9 c10 c11 c12 c13
  go_wp2_with fail
  clear c0 c1 c2 c3 c4 c5 c6 c7 c8 c9 c10 c11 c12 c13 f0 f1 f2 f3 f4 f5 f6 f7 f8 f9 f10 f11 f12 f13
  change Code.wp _ _ _ _ (w2.alloc (.cells (ncells nzero) 162))
  obtain ⟨z9, hz9⟩ : ∃ z, z = w2.heap.size := ⟨_, rfl⟩
  rw [← hz9] at HLK ⊢
  clear hz9
  generalize w2.alloc _ = W2 at HLK ⊢
  go_loopg [9] 0 (fun c' s9 wr => s9 = .bool false ∧ wr = W2)
  case atStart => exact ⟨rfl, rfl⟩
  case round =>
    obtain ⟨rfl, rfl⟩ := hrel
    obtain ⟨_, _, _, c3, c4, c5, _⟩ := HLK.out.2.1.node
    simp only at c3 c4 c5
    obtain ⟨r0, r1, r2, g0, g1, g2⟩ := HLK.out.1.all
    have FIN := Lib.hid (fun w9 (h9 : Kp (fun q => q = z8) wr w9) => (show Below w.heap.size w w9 from below_kp HLK.out.2.2 h9 (fun q e => by have := ZL.out; omega)))
    go_wp2_with fail
    refine bodyPost_ret (v := .tuple #[xagg noV, .bool false]) (by simp [results, Tryz.results44, go_sem, r0, r1, r2, noV]) rfl ⟨rfl, FIN.out _ ?_⟩
    repeat first
      | with_reducible exact Kp.refl _ _
      | with_reducible refine Kp.setCell ?_ (by simp) _
end
end Go.Proofs.YtaapcfoaaopihaaGreat

namespace Go.Proofs.YtaapcfoaaopihaaGreat
set_option maxRecDepth 100000
set_option linter.unusedSimpArgs false
set_option linter.unusedVariables false
open Go.RowKit Go.Shelf
attribute [local go_sem] Oper.semAt_some
section
theorem tPairs_nil (w : World) :
    Calls Tryz.prog 47 #[lan none none, .agg #[.int .i64 0, .int .i64 0]] w fun e w' => ∃ zl zm, e = .returned (seqt zl zm) ∧ C2 w' zl 26 (.pointer none) (.pointer none) ∧ C2 w' zm 72 (.int .i64 0) (.int .i64 0) ∧ Below w.heap.size w w' := by
  have hb : Below w.heap.size w ((w.alloc (.cells #[.pointer none, .pointer none] 26)).alloc (.cells #[.int .i64 0, .int .i64 0] 72)) := ((Below.refl _ w).alloc (Nat.le_refl _) _).alloc (by simp) _
  have e1 : (w.alloc (.cells #[.pointer none, .pointer none] 26)).heap.size = w.heap.size + 1 := by simp
  have q1 := (C2.new w 26 (.pointer none) (.pointer none)).alloc (.cells #[.int .i64 0, .int .i64 0] 72)
  have q2 := C2.new (w.alloc (.cells #[.pointer none, .pointer none] 26)) 72 (.int .i64 0) (.int .i64 0)
  rw [e1] at q2
  have HX := Lib.hid (And.intro q1 (And.intro q2 hb))
  clear hb e1 q1 q2
  go_enter Tryz.func47, Tryz.ntmps47
  go_wp2_with fail
  exact bodyPost_ret (v := seqt w.heap.size (w.heap.size + 1)) (by simp [results, Tryz.results47, go_sem]) rfl ⟨_, _, rfl, HX.out⟩
end
theorem LS.newz11 {w W : World} {b bh seed most z1 : Nat} {M : Cells} {F : Nat → Prop} (h : LS w b bh seed most z1 M F W) : w.heap.size ≤ W.heap.size ∧ ¬ F W.heap.size ∧ ¬ z1 = W.heap.size ∧ ¬ W.heap.size = bh :=
  ⟨h.bel.size, fun hf => absurd (h.ar.lt hf) (Nat.lt_irrefl _), fun e => absurd h.lb.lt (by rw [e]; exact Nat.lt_irrefl _), fun e => absurd h.hh.lt (by rw [← e]; exact Nat.lt_irrefl _)⟩
theorem okn11 (j : Nat) : OkK (2, (j : Int), ⟨#[]⟩) := by refine ⟨by show (0 : Int) ≤ 2; decide, by show (2 : Int) ≤ 255; decide, ?_⟩; show 17 + (⟨#[]⟩ : ByteArray).size ≤ _; decide
structure Ai11 (i : Nat) (l : List Pr) (nn : Nat) (M : Cells) : Prop where
  bk : Bk (999 + 1) M [] (fun _ => 0) [nn]
  tt : TT M nn l
  live : live (999 + 1) M ≤ 21 * i
  len : l.length = i
  keys : ∀ q ∈ l, ∃ j : Nat, j < i ∧ q.1 = (2, (j : Int), ⟨#[]⟩)
structure Az (w : World) (z3 z4 bh : Nat) (F : Nat → Prop) : Prop where
  lo : w.heap.size ≤ z4
  nF : ¬ F z4
  ne : ¬ z3 = z4
  nb : ¬ z4 = bh
section
variable {w W : World} {b bh z3 z4 i nn : Nat} {l : List Pr} {M : Cells} {F : Nat → Prop}
theorem aput11 (h : LS w b bh 7 999 z3 M F W) (ha : Ai11 i l nn M) (hi : i < 20) (hz : Az w z3 z4 bh F) (hz4 : z4 < W.heap.size) :
    Calls Tryz.prog 41 #[land b bh, .agg #[.int .i64 (l.length : Nat), .int .i64 (nn : Nat)], xagg (2, (i : Int), ⟨#[]⟩), xagg noV, .int .u32 1] W fun e W' => ∃ (l' : List Pr) (n' : Nat) (M' : Cells) (F' : Nat → Prop), e = .returned (.tuple #[.agg #[.int .i64 (l'.length : Nat), .int .i64 (n' : Nat)], .int .i64 0]) ∧ LS w b bh 7 999 z3 M' F' W' ∧ Ai11 (i + 1) l' n' M' ∧ Az w z3 z4 bh F' ∧ Kp (fun q => F q ∨ q = bh) W W' := by
  have hk0 : ∀ q ∈ l, q.1 ≠ (2, (i : Int), ⟨#[]⟩) := fun q hq e => by
    obtain ⟨j, hj, e2⟩ := ha.keys q hq
    rw [e] at e2
    simp only [Prod.mk.injEq, true_and, and_true] at e2
    omega
  have hhas : hasB (2, (i : Int), ⟨#[]⟩) l = false := by
    cases e : hasB (2, (i : Int), ⟨#[]⟩) l with
    | false => rfl
    | true =>
      obtain ⟨q, hq, e2⟩ := hasB_iff.1 e
      exact absurd e2 (hk0 q hq)
  have hl := ha.len
  have hlv := ha.live
  refine (put11 7 nn 1 (2, (i : Int), ⟨#[]⟩) noV l (by decide) (okn11 i) ha.bk (fun _ => Nat.zero_le _) ha.tt (by omega) (by omega) W h).mono ?_
  rintro e W' ⟨n, M', F', rfl, hls, hT, hF', hkp⟩
  refine ⟨_, n, M', F', rfl, hls, ⟨hT.bk, hT.tt, ?_, ?_, fun q hq => ?_⟩, ⟨hz.lo, hF' z4 hz4 hz.nF, hz.ne, hz.nb⟩, hkp⟩
  · have h1 := hT.live
    omega
  · rw [putL_length ha.tt.srt]
    simp only [hhas, Bool.false_eq_true, if_false]
    omega
  · rcases ((putL_spec ha.tt.srt).2 q).1 hq with rfl | ⟨h1, _⟩
    · exact ⟨i, by omega, rfl⟩
    · obtain ⟨j, hj, e2⟩ := ha.keys q h1
      exact ⟨j, by omega, e2⟩
end
theorem awant (n : Int) : ∃ m : Nat, 1 ≤ m ∧ m ≤ 20 ∧ wrap64 (1 + wrap64 ((IntKind.u64.wrap n).tmod 20)) = (m : Int) := by
  have e0 : IntKind.u64.wrap n = n % 18446744073709551616 := by simp [IntKind.wrap, IntKind.bits, IntKind.signed]
  have h0 : 0 ≤ IntKind.u64.wrap n := by omega
  have h1 : 0 ≤ (IntKind.u64.wrap n).tmod 20 ∧ (IntKind.u64.wrap n).tmod 20 < 20 := by
    rw [Int.tmod_eq_emod_of_nonneg h0]
    omega
  rw [IntWalk.wrap64_in ((IntKind.u64.wrap n).tmod 20) (by omega), IntWalk.wrap64_in _ (by omega)]
  exact ⟨(1 + (IntKind.u64.wrap n).tmod 20).toNat, by omega, by omega, by omega⟩
structure RA (w w5 : World) (b bh z3 z6 z7 m : Nat) (M : Cells) (F : Nat → Prop) (g : Nat) (W : World) : Prop where
  ls : LS w b bh 7 999 z3 M F W
  q6 : C1 W z6 3 (.int .i64 (m : Int))
  q7 : C1 W z7 3 (.int .i64 (g : Int))
  zs : z6 < w5.heap.size ∧ z7 < w5.heap.size ∧ ¬ F z7 ∧ z7 ≠ bh ∧ z7 ≠ z3 ∧ z6 ≠ z7 ∧ w.heap.size ≤ z7 ∧ bh < w5.heap.size ∧ z3 < w5.heap.size ∧ w.heap.size ≤ w5.heap.size
  fl : ∀ q, F q → q < w5.heap.size
theorem RA.own {w w5 W W' : World} {b bh z3 z6 z7 m g : Nat} {M : Cells} {F : Nat → Prop} {row : Option Nat} (h : RA w w5 b bh z3 z6 z7 m M F g W) (hg : W.grownBy W' row) (hr : ∀ r, row = some r → w5.heap.size ≤ r ∧ ∃ o : Obj, W.heap[r]? = some o ∧ o.isCells = false) : RA w w5 b bh z3 z6 z7 m M F g W' := by
  have hk : Kp (fun q => row = some q) W W' := Kp.of_grown hg (fun q e => .inl e)
  have lo : ∀ q, row = some q → w5.heap.size ≤ q := fun q e => (hr q e).1
  obtain ⟨s1, s2, s3, s4, s5, s6, s7, s8, s9, s10⟩ := h.zs
  exact ⟨h.ls.kp hk (fun q e => ⟨Nat.le_trans s10 (lo q e), fun hf => by have := lo q e; have := h.fl q hf; omega, fun e2 => by have := lo q e; omega, fun e2 => by have := lo q e; omega⟩), h.q6.kp hk (fun e => by have := lo _ e; omega), h.q7.kp hk (fun e => by have := lo _ e; omega), h.zs, h.fl⟩
theorem RA.next {w w5 W : World} {b bh z3 z6 z7 m g : Nat} {M : Cells} {F : Nat → Prop} (h : RA w w5 b bh z3 z6 z7 m M F g W) (g' : Nat) : RA w w5 b bh z3 z6 z7 m M F g' (W.setCell ⟨z7, 0, none⟩ (.int .i64 (g' : Int))) ∧ ∀ {n0 root : Nat} {M0 : Cells}, z7 < n0 → K11 n0 b 999 M0 root W (W.setCell ⟨z7, 0, none⟩ (.int .i64 (g' : Int))) := by
  have hk : Kp (fun q => q = z7) W (W.setCell ⟨z7, 0, none⟩ (.int .i64 (g' : Int))) := Kp.one W z7 0 _
  obtain ⟨s1, s2, s3, s4, s5, s6, s7, s8, s9, s10⟩ := h.zs
  exact ⟨⟨h.ls.kp hk (fun q e => by rw [e]; exact ⟨s7, s3, s4, s5⟩), h.q6.kp hk s6, h.q7.set _, h.zs, h.fl⟩, fun hn => K11.of_kp h.ls.ar hk (fun q e => by rw [e]; exact s3) (fun q cur t e hq _ => absurd hq (by rw [e]; omega))⟩
structure EA (w : World) (b bh z3 z6 z7 z8 D m : Nat) (W : World) : Prop where
  lb : C2 W z3 26 (ap b) (.pointer (some ⟨bh, 0, none⟩))
  q6 : C1 W z6 3 (.int .i64 (m : Int))
  q7 : C1 W z7 3 (.int .i64 (m : Int))
  q8 : C2 W z8 26 (.pointer none) (.pointer none)
  hd : W.heap[D]? = some (.deferred (some []))
  bel : Below w.heap.size w W
  dlo : w.heap.size ≤ D
theorem EA.below {w W W' : World} {b bh z3 z6 z7 z8 D m : Nat} (h : EA w b bh z3 z6 z7 z8 D m W) (hb : Below W.heap.size W W') : EA w b bh z3 z6 z7 z8 D m W' :=
  ⟨h.lb.below hb, h.q6.below hb, h.q7.below hb, h.q8.below hb, (hb.block D (Array.getElem?_eq_some_iff.1 h.hd).1).trans h.hd, h.bel.trans (hb.mono h.bel.size), h.dlo⟩
section
set_option maxHeartbeats 8000000 in
theorem awalk (n : Int) (w : World) : Calls Tryz.prog 7 #[.int .i64 n] w fun e w' => e = .returned (.bool true) ∧ Below w.heap.size w w' := by
  refine (callsIn_wide (n := 3)).1 ?_
  refine callsIn_of_wp_marks Tryz.func7 rfl trivial ?_ rfl
  refine wpIn_wide.2 ?_
  simp only [Tryz.ntmps7, List.size_toArray, List.length_cons, List.length_nil, Nat.reduceAdd, Nat.reduceSub, Array.replicate_succ, Array.replicate_zero, List.push_toArray, List.append_toArray, List.nil_append, List.cons_append]
  go_wp2_with fail
  refine (llives11 w).mono ?_
  rintro e w0 ⟨rfl, hb0⟩
  have HB0 := Lib.hid hb0
  clear hb0
  go_wp2_with fail
  refine (lland11 7 999 w0 (by decide) (by decide)).mono ?_
  rintro e w1 ⟨b, bh, rfl, ha, hh, hne, hbb, hbh, hbl⟩
  have LB := Lib.hid (And.intro ha (And.intro hh (And.intro hne (And.intro hbb (And.intro hbh hbl)))))
  have hb1 := ha.blt
  have hh1 := hh.lt
  clear ha hh hne hbb hbh hbl
  go_upto_region 6 with fail
  have hls : LS w b bh 7 999 w1.heap.size (fun _ => none) (fun k => k = b) (w1.alloc (.cells #[ap b, .pointer (some ⟨bh, 0, none⟩)] 26)) := by
    obtain ⟨ha, hh, hne, hbb, hbh, hbl⟩ := LB.out
    have hs0 := HB0.out.size
    have hbl2 := HB0.out.trans (hbl.mono hs0)
    exact ⟨ha.alloc _, hh.alloc _, fun e => hne e.symm, C2.new _ _ _ _, ⟨fun e => by omega, by omega⟩, hbl2.alloc hbl2.size _, fun q e => by omega, ⟨hbl2.size, by omega⟩⟩
  have hls2 := hls.alloc (.cells #[.int .i64 0, .int .i64 0] 72)
  have hq4 := C2.new (w1.alloc (.cells #[ap b, .pointer (some ⟨bh, 0, none⟩)] 26)) 72 (.int .i64 0) (.int .i64 0)
  have hnz := hls.newz11
  have hz4e : (w1.alloc (.cells #[ap b, .pointer (some ⟨bh, 0, none⟩)] 26)).heap.size = w1.heap.size + 1 := by simp
  rw [hz4e] at hq4 hnz
  clear hls hb1 hh1 hz4e
  generalize (w1.alloc (.cells #[ap b, .pointer (some ⟨bh, 0, none⟩)] 26)).alloc (.cells #[.int .i64 0, .int .i64 0] 72) = w2 at hls2 hq4 ⊢
  generalize w1.heap.size + 1 = z4 at hq4 hnz ⊢
  generalize w1.heap.size = z3 at hls2 hnz ⊢
  have H2 := Lib.hid (And.intro hls2 (And.intro hq4 (Az.mk (F := fun k => k = b) hnz.1 hnz.2.1 hnz.2.2.1 hnz.2.2.2)))
  clear hls2 hq4 hnz
  go_loopw [18] (fun s18 wr => ∃ (i : Nat) (l : List Pr) (nn : Nat) (M : Cells) (F : Nat → Prop), s18 = .int .i64 (i : Int) ∧ i ≤ 20 ∧ LS w b bh 7 999 z3 M F wr ∧ C2 wr z4 72 (.int .i64 (l.length : Nat)) (.int .i64 (nn : Nat)) ∧ Ai11 i l nn M ∧ Az w z3 z4 bh F) (fun s18 _ => 20 - (intOf s18).toNat)
  case atStart => exact ⟨0, [], 0, _, _, rfl, by decide, H2.out.1, H2.out.2.1, ⟨bk0 999, .nil, by rw [live_zero fun _ => rfl]; decide, rfl, fun q hq => by cases hq⟩, H2.out.2.2⟩
  case round =>
    clear H2
    obtain ⟨i, l, nn, M, F, rfl, hi, hls, hq4, hai, haz⟩ := hrel
    by_cases hi20 : i < 20
    · have hlt : (i : Int) < 20 := by omega
      have hw1 : IntKind.i64.wrap ((i : Int) + 1) = (i : Int) + 1 := IntWalk.i64_in _ (by omega)
      have HI := Lib.hid (And.intro hi20 (And.intro hai haz))
      have HLS := Lib.hid (And.intro hls hq4)
      clear hai haz hi20 hi
      go_upto_region 8 with fail
      have l0 : ∀ W, C2 W z3 26 (ap b) (.pointer (some ⟨bh, 0, none⟩)) → W.cell? ⟨z3, 0, none⟩ = some (ap b) := fun W h => h.c0
      have l1 : ∀ W, C2 W z3 26 (ap b) (.pointer (some ⟨bh, 0, none⟩)) → W.cell? ⟨z3, 1, none⟩ = some (.pointer (some ⟨bh, 0, none⟩)) := fun W h => h.c1
      refine wp_region_noPanic ?_
      refine wp_region_held_drew (S := fun W => C2 W z3 26 (ap b) (.pointer (some ⟨bh, 0, none⟩))) (by kernel_rfl) (HLS.out.1.below (Below.refl _ wr).drew).lb (fun hH => ?_)
      have ls3 := And.intro (HLS.out.1.below (Below.refl _ wr).drew) (HLS.out.2.below (Below.refl _ wr).drew)
      clear hls hq4 HLS
      generalize wr.drew = Wc at ls3 hH ⊢
      refine tkH ?_ 0 hH ?_ ?_; rotate_left
      · intro W' hS; go_simp; with_reducible rfl
      simp only [tkr]
      refine tkH ?_ 2 hH ?_ ?_; rotate_left
      · intro W' hS; go_simp; with_reducible rfl
      simp only [tkr]
      refine tkH ?_ 4 hH ?_ ?_; rotate_left
      · intro W' hS; go_simp; with_reducible rfl
      simp only [tkr]
      refine wpAnyH_ready (rs := [1, 3]) (by kernel_rfl) (by simp) ?_
      refine AllReadyH.cons rfl (fun K hK => ?_) (AllReadyH.cons rfl (fun K hK => ?_) (AllReadyH.nil))
      · obtain ⟨m0, m1, _⟩ := ls3.2.all
        go_simp
        clear m0 m1
        refine hK.out _ _ ?_ (fun hH => ?_)
        · exact ls3.1.lb
        clear hK K
        refine rdH 3 rfl (fun K hK => ?_)
        go_simp
        refine (lnumber (i : Int) Wc).mono ?_
        rintro e Wc ⟨rfl, hb4⟩
        replace ls3 := And.intro (ls3.1.below hb4) (ls3.2.below hb4)
        clear hb4
        simp only
        refine hK.out _ _ ?_ (fun hH => ?_)
        · exact ls3.1.lb
        clear hK K
        refine rdH 5 rfl (fun K hK => ?_)
        go_simp
        refine (aput11 ls3.1 HI.out.2.1 HI.out.1 HI.out.2.2 ls3.2.lt).mono ?_
        rintro e Wc ⟨l', n', M', F', rfl, ls9, ai9, az9, hk9⟩
        have q9 := ls3.2.kp hk9 (fun e => e.elim HI.out.2.2.nF HI.out.2.2.nb)
        simp only
        refine hK.out _ _ ?_ (fun hH => ?_)
        · exact ls9.lb
        clear hK K hk9 ls3
        refine tkH ?_ 6 hH ?_ ?_; rotate_left
        · intro W' hS; go_simp; with_reducible rfl
        simp only [tkr]
        refine tkH ?_ 7 hH ?_ ?_; rotate_left
        · intro W' hS; go_simp; with_reducible rfl
        simp only [tkr]
        refine tkH ?_ 8 hH ?_ ?_; rotate_left
        · intro W' hS; go_simp; with_reducible rfl
        simp only [tkr]
        refine rdH 9 rfl (fun K hK => ?_)
        obtain ⟨m0, m1, g0, g1⟩ := q9.all
        go_simp
        clear m0 m1 g0 g1
        have hk : Kp (fun q => q = z4) Wc ((Wc.setCell ⟨z4, 0, none⟩ (.int .i64 (l'.length : Nat))).setCell ⟨z4, 1, none⟩ (.int .i64 (n' : Nat))) := ((Kp.refl (fun q => q = z4) Wc).setCell (.inl rfl) _).setCell (.inl rfl) _
        have ls10 := ls9.kp hk (fun q e => by
          rw [e]
          exact ⟨az9.lo, az9.nF, az9.nb, fun e => az9.ne e.symm⟩)
        have q10 := (q9.set0 (.int .i64 (l'.length : Nat))).set1 (.int .i64 (n' : Nat))
        generalize (Wc.setCell ⟨z4, 0, none⟩ (.int .i64 (l'.length : Nat))).setCell ⟨z4, 1, none⟩ (.int .i64 (n' : Nat)) = W10 at ls10 q10 ⊢
        refine hK.out _ _ ?_ (fun hH => ?_)
        · exact ls10.lb
        clear hK K hk
        refine wpAnyH_done (by kernel_rfl) ?_ _
        refine NoPanic.normal ?_
        clear l0 l1
        have HE := Lib.hid (And.intro ls10 (And.intro q10 (And.intro ai9 az9)))
        clear ls9 ls10 q9 q10 ai9 az9 hH
        go_wp2_with fail
        go_roundw
        case rel => exact ⟨i + 1, l', n', M', F', rfl, by have := HI.out.1; omega, HE.out⟩
        case measure =>
          have := HI.out.1
          simp [intOf]
          omega
      · go_simp
        refine (lnumber (i : Int) Wc).mono ?_
        rintro e Wc ⟨rfl, hb4⟩
        replace ls3 := And.intro (ls3.1.below hb4) (ls3.2.below hb4)
        clear hb4
        simp only
        refine hK.out _ _ ?_ (fun hH => ?_)
        · exact ls3.1.lb
        clear hK K
        refine rdH 1 rfl (fun K hK => ?_)
        obtain ⟨m0, m1, _⟩ := ls3.2.all
        go_simp
        clear m0 m1
        refine hK.out _ _ ?_ (fun hH => ?_)
        · exact ls3.1.lb
        clear hK K
        refine rdH 5 rfl (fun K hK => ?_)
        go_simp
        refine (aput11 ls3.1 HI.out.2.1 HI.out.1 HI.out.2.2 ls3.2.lt).mono ?_
        rintro e Wc ⟨l', n', M', F', rfl, ls9, ai9, az9, hk9⟩
        have q9 := ls3.2.kp hk9 (fun e => e.elim HI.out.2.2.nF HI.out.2.2.nb)
        simp only
        refine hK.out _ _ ?_ (fun hH => ?_)
        · exact ls9.lb
        clear hK K hk9 ls3
        refine tkH ?_ 6 hH ?_ ?_; rotate_left
        · intro W' hS; go_simp; with_reducible rfl
        simp only [tkr]
        refine tkH ?_ 7 hH ?_ ?_; rotate_left
        · intro W' hS; go_simp; with_reducible rfl
        simp only [tkr]
        refine tkH ?_ 8 hH ?_ ?_; rotate_left
        · intro W' hS; go_simp; with_reducible rfl
        simp only [tkr]
        refine rdH 9 rfl (fun K hK => ?_)
        obtain ⟨m0, m1, g0, g1⟩ := q9.all
        go_simp
        clear m0 m1 g0 g1
        have hk : Kp (fun q => q = z4) Wc ((Wc.setCell ⟨z4, 0, none⟩ (.int .i64 (l'.length : Nat))).setCell ⟨z4, 1, none⟩ (.int .i64 (n' : Nat))) := ((Kp.refl (fun q => q = z4) Wc).setCell (.inl rfl) _).setCell (.inl rfl) _
        have ls10 := ls9.kp hk (fun q e => by
          rw [e]
          exact ⟨az9.lo, az9.nF, az9.nb, fun e => az9.ne e.symm⟩)
        have q10 := (q9.set0 (.int .i64 (l'.length : Nat))).set1 (.int .i64 (n' : Nat))
        generalize (Wc.setCell ⟨z4, 0, none⟩ (.int .i64 (l'.length : Nat))).setCell ⟨z4, 1, none⟩ (.int .i64 (n' : Nat)) = W10 at ls10 q10 ⊢
        refine hK.out _ _ ?_ (fun hH => ?_)
        · exact ls10.lb
        clear hK K hk
        refine wpAnyH_done (by kernel_rfl) ?_ _
        refine NoPanic.normal ?_
        clear l0 l1
        have HE := Lib.hid (And.intro ls10 (And.intro q10 (And.intro ai9 az9)))
        clear ls9 ls10 q9 q10 ai9 az9 hH
        go_wp2_with fail
        go_roundw
        case rel => exact ⟨i + 1, l', n', M', F', rfl, by have := HI.out.1; omega, HE.out⟩
        case measure =>
          have := HI.out.1
          simp [intOf]
          omega
    · have hlt : ¬ (i : Int) < 20 := by omega
      obtain rfl : i = 20 := by omega
      have HLS := Lib.hid (And.intro hls (And.intro hq4 (And.intro hai haz)))
      obtain ⟨x0, x1, _⟩ := hls.lb.all
      obtain ⟨y0, y1, _⟩ := hq4.all
      have hzl := And.intro hls.lb.lt hq4.lt
      clear hls hq4 hai haz hi hi20
      obtain ⟨m, hm1, hm20, hm⟩ := awant n
      go_upto_region 11 with fail
      rw [hm]
      have hz7e : (wr.alloc (.cells #[.int .i64 (m : Int)] 3)).heap.size = wr.heap.size + 1 := by simp
      have hls6 := (HLS.out.1.alloc (.cells #[.int .i64 (m : Int)] 3)).alloc (.cells #[.int .i64 0] 3)
      have hq6 := (C1.new wr 3 (.int .i64 (m : Int))).alloc (.cells #[.int .i64 0] 3)
      have hq7 := C1.new (wr.alloc (.cells #[.int .i64 (m : Int)] 3)) 3 (.int .i64 0)
      have hq46 := (HLS.out.2.1.alloc (.cells #[.int .i64 (m : Int)] 3)).alloc (.cells #[.int .i64 0] 3)
      have hsz6 : ((wr.alloc (.cells #[.int .i64 (m : Int)] 3)).alloc (.cells #[.int .i64 0] 3)).heap.size = wr.heap.size + 2 := by simp
      rw [hz7e] at hq7
      have hfl : ∀ q, F q → q < wr.heap.size := fun q hq => HLS.out.1.ar.lt hq
      have hbhl : bh < wr.heap.size := HLS.out.1.hh.lt
      have hwlo : w.heap.size ≤ wr.heap.size := HLS.out.1.bel.size
      clear hz7e x0 x1 y0 y1
      generalize (wr.alloc (.cells #[.int .i64 (m : Int)] 3)).alloc (.cells #[.int .i64 0] 3) = w6 at hls6 hq6 hq7 hq46 hsz6 ⊢
      obtain ⟨z6, hz6⟩ : ∃ z6, z6 = wr.heap.size := ⟨_, rfl⟩
      obtain ⟨z7, hz7⟩ : ∃ z7, z7 = wr.heap.size + 1 := ⟨_, rfl⟩
      rw [← hz7] at hq7 ⊢
      rw [← hz6] at hq6 ⊢
      have H6 := Lib.hid (And.intro hls6 (And.intro hq6 (And.intro hq7 (And.intro hq46 (And.intro hsz6 (And.intro hfl (And.intro hbhl (And.intro hwlo (And.intro hz6 (And.intro hz7 (And.intro hzl (And.intro hm1 hm20))))))))))))
      obtain ⟨x0, x1, _⟩ := hls6.lb.all
      obtain ⟨y0, y1, _⟩ := hq46.all
      clear hls6 hq6 hq7 hq46 hsz6 hfl hbhl hwlo hz6 hz7 hzl hm1 hm20 hm hlt
      go_wp2_with fail
      refine (tPairs b bh l.length nn w6).mono ?_
      rintro e w5 ⟨zl, zm, rfl, ql, qm, _, _, hb5⟩
      have hra : RA w w5 b bh z3 z6 z7 m M F 0 w5 := by
        obtain ⟨hls6, hq6, hq7, hq46, hsz6, hfl, hbhl, hwlo, hz6, hz7, hzl, hm1, hm20⟩ := H6.out
        have hs5 := hb5.size
        have hne : z7 ≠ z3 := by have := hzl.1; omega
        exact ⟨hls6.below hb5, hq6.below hb5, hq7.below hb5, ⟨by omega, by omega, fun hf => by have := hfl z7 hf; omega, by omega, hne, by omega, by omega, by omega, by have := hzl.1; omega, by omega⟩, fun q hq => by have := hfl q hq; omega⟩
      have hgive := pairs_gives11 (b := b) (bh := bh) (most := 999) (root := nn) (N := l.length) (M0 := M) (l := l) zl zm w5 hra.ls.ar.zero HLS.out.2.2.1.tt ⟨M, F, hra.ls.ar, Pres.refl M nn⟩ ql qm
      have HG := Lib.hid hgive
      have HR := Lib.hid (And.intro hra (show 0 < m from H6.out.2.2.2.2.2.2.2.2.2.2.2.1))
      clear x0 x1 y0 y1 ql qm hb5 hra hgive
      go_wp2_with fail
      refine wp_range8 (encs := fun p : Pr => #[pagg p]) (first := #[]) (last := #[.pointer (some ⟨zl, 0, none⟩), .pointer (some ⟨zm, 0, none⟩)]) (f := 94) rfl (fun _ _ => rfl) (fun _ => rfl) HG.out (fun h1 h2 => h1.trans h2) (fun W l o o' _ ho hc _ => K11.putObj ho hc)
        (fun g W => RA w w5 b bh z3 z6 z7 m M F g W ∧ g < m) (fun c g W => (RA w w5 b bh z3 z6 z7 m M F g W ∧ g = m) ∧ c = .exit 2) (fun g A B row h hg hr => ⟨h.1.own hg hr, h.2⟩) (fun c g A B row h hg hr => ⟨⟨h.1.1.own hg hr, h.1.2⟩, h.2⟩) HR.out ?_ ?_ ?_
      · intro lp i x W hx
        gi_wp2
        refine ⟨trivial, fun W' hI hsz => ?_⟩
        obtain ⟨hra, him⟩ := hI
        obtain ⟨q6a, _⟩ := hra.q6.all
        obtain ⟨q7a, q7b⟩ := hra.q7.all
        have hnx := hra.next (i + 1)
        have hzs := hra.zs
        have hi9 : i ≤ 20 := by have := H6.out.2.2.2.2.2.2.2.2.2.2.2.2; omega
        have hw9 : IntKind.i64.wrap ((i : Int) + 1) = (i : Int) + 1 := IntWalk.i64_in _ (by omega)
        have hne : ¬ z6 = z7 := hzs.2.2.2.2.2.1
        have hne' : ¬ z7 = z6 := fun e => hne e.symm
        have HNX := Lib.hid (And.intro hnx.1 (hnx.2 (n0 := w5.heap.size) (root := nn) (M0 := M) hzs.2.1))
        have HIM := Lib.hid him
        clear hra hnx hzs hi9 him hsz hx HG HR
        by_cases he : i + 1 = m
        · subst he
          gi_wp2
          exact ⟨(KeepsOthers.refl W').trans (KeepsOthers.setCell _ _ _), HNX.out.2, ⟨HNX.out.1, rfl⟩, rfl⟩
        · have hx : ¬ (i : Int) + 1 = (m : Int) := by omega
          have HE := Lib.hid he
          clear he
          gi_wp2
          exact ⟨(KeepsOthers.refl W').trans (KeepsOthers.setCell _ _ _), HNX.out.2, HNX.out.1, by have := HIM.out; have := HE.out; omega⟩
      · intro D W hD hI hdef
        exfalso
        have h1 := hI.2
        have h2 := HLS.out.2.2.1.len
        have h3 := H6.out.2.2.2.2.2.2.2.2.2.2.2.2
        omega
      · rintro D c i W hD hi ⟨⟨hra, rfl⟩, rfl⟩ hdef
        obtain ⟨s1, s2, s3, s4, s5, s6, s7, s8, s9, s10⟩ := hra.zs
        have HD := Lib.hid (And.intro hdef (And.intro (Nat.le_trans s10 hD) hra.ls.bel))
        have HV := Lib.hid (And.intro hra.ls.lb (And.intro hra.q6 hra.q7))
        clear hdef hD hi hra s1 s2 s3 s4 s5 s6 s7 s8 s9 s10 HR HG
        go_upto_region 15 with fail
        have HV := Lib.hid (show EA w b bh z3 z6 z7 W.heap.size D i (W.alloc (.cells #[.pointer none, .pointer none] 26)) from ⟨HV.out.1.alloc _, HV.out.2.1.alloc _, HV.out.2.2.alloc _, C2.new _ _ _ _, (Below.heap_alloc _ _ _ (Array.getElem?_eq_some_iff.1 HD.out.1).1).trans HD.out.1, HD.out.2.2.alloc HD.out.2.2.size _, HD.out.2.1⟩)
        generalize W.alloc (.cells #[.pointer none, .pointer none] 26) = W8 at HV ⊢
        clear HD
        generalize W.heap.size = z8 at HV ⊢
        have x0 := HV.out.q8.c0
        have x1 := HV.out.q8.c1
        have x2 := HV.out.lb.c0
        go_wp2_with fail
        refine (tPut_nil noV noV 0 _).mono ?_
        rintro e wy ⟨rfl, hby⟩
        have HV2 := Lib.hid ((HV.out.below hby).below ((Below.refl _ wy).alloc (Nat.le_refl _) (.cells #[.int .i64 0, .int .i64 0] 72)))
        clear hby HV x0 x1 x2
        go_upto_region 16 with fail
        generalize wy.alloc (.cells #[.int .i64 0, .int .i64 0] 72) = wz at HV2 ⊢
        generalize wy.heap.size = zq1 at ⊢
        have HV := HV2
        clear HV2
        have x0 := HV.out.q8.c0
        have x1 := HV.out.q8.c1
        have x2 := HV.out.lb.c0
        go_wp2_with fail
        refine (tTake_nil noV _).mono ?_
        rintro e wy ⟨rfl, hby⟩
        have HV2 := Lib.hid ((HV.out.below hby).below ((Below.refl _ wy).alloc (Nat.le_refl _) (.cells #[.int .i64 0, .int .i64 0] 72)))
        clear hby HV x0 x1 x2
        go_upto_region 17 with fail
        generalize wy.alloc (.cells #[.int .i64 0, .int .i64 0] 72) = wz at HV2 ⊢
        generalize wy.heap.size = zq2 at ⊢
        have HV := HV2
        clear HV2
        have x0 := HV.out.q8.c0
        have x1 := HV.out.q8.c1
        have x2 := HV.out.lb.c0
        go_wp2_with fail
        refine (tLook_nil noV _).mono ?_
        rintro e wy ⟨rfl, hby⟩
        have HV2 := Lib.hid ((HV.out.below hby).below ((Below.refl _ wy).alloc (Nat.le_refl _) (.cells #[.int .u8 noV.1, .int .i64 noV.2.1, .string noV.2.2] 36)))
        clear hby HV x0 x1 x2
        go_upto_region 18 with fail
        generalize wy.alloc (.cells #[.int .u8 noV.1, .int .i64 noV.2.1, .string noV.2.2] 36) = wz at HV2 ⊢
        generalize wy.heap.size = zq4 at ⊢
        have HV := HV2
        clear HV2
        obtain ⟨a6, _⟩ := HV.out.q6.all
        obtain ⟨a7, _⟩ := HV.out.q7.all
        have x0 := HV.out.q8.c0
        have x1 := HV.out.q8.c1
        go_wp2_with fail
        refine (tPairs_nil _).mono ?_
        rintro e wy ⟨zl2, zm2, rfl, ql, qm, hby⟩
        have HC := Lib.hid (tcollect_none zl2 zm2 wy (fun W hW => pairs_nil11 zl2 zm2 _ W (ql.below hW) (qm.below hW)))
        have HV2 := Lib.hid (HV.out.below hby)
        clear hby HV x0 x1 a6 a7 ql qm
        go_wp2_with fail
        refine HC.out.mono ?_
        rintro e wu ⟨rfl, hbu⟩
        have HV3 := Lib.hid (HV2.out.below hbu)
        clear hbu HV2 HC
        go_wp2_with fail
        refine ⟨by simp, .inl ⟨_, _, rfl, run_takeDeferred HV3.out.hd, ?_⟩⟩
        exact ⟨_, by simp [results, Tryz.results7, go_sem], rfl, below_kp HV3.out.bel (kp_putObj (x := D)) (fun q e => by rw [e]; exact HV3.out.dlo)⟩
end
end Go.Proofs.YtaapcfoaaopihaaGreat

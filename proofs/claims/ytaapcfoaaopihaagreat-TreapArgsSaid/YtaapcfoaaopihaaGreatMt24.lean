/- Several texts in one. -/
import Derived.Test.YtaapcfoaaopihaaGreatMt22
import Derived.Test.YtaapcfoaaopihaaGreatMt09
import Derived.Test.YtaapcfoaaopihaaGreatMt19
import Derived.Test.YtaapcfoaaopihaaGreatMt11
set_option linter.unusedSimpArgs false
namespace Go.Proofs.YtaapcfoaaopihaaGreat
set_option maxRecDepth 100000
set_option linter.unusedSimpArgs false
set_option linter.unusedVariables false
open Go.RowKit Go.Shelf
attribute [local go_sem] Oper.semAt_some
section
theorem tlacks_no (w : World) : Calls Tryz.prog 81 #[lan none none] w fun e w' => e = .returned (.bool true) ∧ Below w.heap.size w w' := by
  have hb : Below w.heap.size w (w.alloc (.cells #[.pointer none, .pointer none] 26)) := (Below.refl _ w).alloc (Nat.le_refl _) _
  go_enter Tryz.func81, Tryz.ntmps81
  go_wp2_with fail
  exact bodyPost_ret (v := .bool true) (by simp [results, Tryz.results81, go_sem]) rfl ⟨rfl, hb⟩
set_option maxHeartbeats 8000000 in
theorem tread_nil (i s : Nat) (lo hi : Option Addr) (w : World) :
    Calls Tryz.prog 90 #[lan none none, plagg i lo hi s] w fun e w' => e = .returned (.tuple #[nagg nzero, .bool false]) ∧ Below w.heap.size w w' := by
  have hb : Below w.heap.size w (((w.alloc (.cells #[.pointer none, .pointer none] 26)).alloc (.cells (pcell4 i lo hi s) 159)).alloc (.cells (ncells nzero) 162)) := (((Below.refl _ w).alloc (Nat.le_refl _) _).alloc (by simp) _).alloc (by simp; omega) _
  have e1 : (w.alloc (.cells #[.pointer none, .pointer none] 26)).heap.size = w.heap.size + 1 := by simp
  have e2 : ((w.alloc (.cells #[.pointer none, .pointer none] 26)).alloc (.cells (pcell4 i lo hi s) 159)).heap.size = w.heap.size + 1 + 1 := by simp
  have q2 := ((C2.new w 26 (.pointer none) (.pointer none)).alloc (.cells (pcell4 i lo hi s) 159)).alloc (.cells (ncells nzero) 162)
  have q3 := (BC.new (w.alloc (.cells #[.pointer none, .pointer none] 26)) 159 (pcell4 i lo hi s)).alloc (.cells (ncells nzero) 162)
  have q4 := BC.new ((w.alloc (.cells #[.pointer none, .pointer none] 26)).alloc (.cells (pcell4 i lo hi s) 159)) 162 (ncells nzero)
  rw [e1] at q3
  rw [e2] at q4
  have HB := Lib.hid hb
  clear hb e1 e2
  go_enter Tryz.func90, Tryz.ntmps90
  go_upto_region 1 with fail
  generalize World.alloc (World.alloc (w.alloc _) _) _ = W1 at q2 q3 q4 HB ⊢
  have HG := Lib.hid (get_nil (i : Int) W1)
  have x0 := q2.c0
  have y0 := q3.place.1
  go_wp2_with fail
  refine HG.out.mono ?_
  rintro e w2 ⟨rfl, hb2⟩
  clear x0 y0 HG
  go_upto_region 2 with fail
  have hb3 : Below w2.heap.size w2 (w2.alloc (.cells #[.int .u32 0, .int .u32 0, .int .u32 0, .slice none 0 0, .slice none 0 0] 94)) := (Below.refl _ w2).alloc (Nat.le_refl _) _
  have hb4 := hb2.trans (hb3.mono hb2.size)
  have HB3 := Lib.hid (HB.out.trans (hb4.mono HB.out.size))
  replace q2 := q2.below hb4
  replace q3 := q3.below hb4
  replace q4 := q4.below hb4
  clear hb2 hb3 hb4 HB
  generalize w2.alloc _ = W3 at q2 q3 q4 HB3 ⊢
  generalize w2.heap.size = z6
  have k0 := Gb.cell q2.c0 q2.lt
  have k1 := Gb.cell q2.c1 q2.lt
  refine region_below (by kernel_rfl) (by kernel_rfl) ?_
  repeat (go_big_quiet_step ((go_at_call 81; exact Gb.calls _ (tlacks_no _))))
  refine wpQuiet_nil ?_
  rintro _ ⟨g9, rfl⟩
  replace q4 := q4.below g9.below
  have HB6 := Lib.hid (HB3.out.trans (g9.below.mono HB3.out.size))
  clear q2 q3 HB3 k0 k1
  generalize g9.at' = w6 at q4 HB6 ⊢
  clear g9
  obtain ⟨c0, c1, c2, c3, c4, c5, c6, c7, c8, c9, c10, c11, c12, c13⟩ := q4.node
  simp only at c0 c1 c2 c3 c4 c5 c6 c7 c8 c9 c10 c11 c12 c13
  obtain ⟨f0, f1, f2, f3, f4, f5, f6, f7, f8, f9, f10, f11, f12, f13⟩ := q4.fz14
  go_wp2_with fail
  have q5 := q4.setN nzero
  have b5 := Lib.hid (below_setN HB6.out (show w.heap.size ≤ w.heap.size + 1 + 1 by omega) nzero)
  clear c0 c1 c2 c3 c4 c5 c6 c7 c8 c9 c10 c11 c12 c13 f0 f1 f2 f3 f4 f5 f6 f7 f8 f9 f10 f11 f12 f13
  change bodyPost _ _ _ _ _ (setN w6 (w.heap.size + 1 + 1) nzero)
  generalize setN w6 (w.heap.size + 1 + 1) nzero = W7 at q5 b5 ⊢
  obtain ⟨c0, c1, c2, c3, c4, c5, c6, c7, c8, c9, c10, c11, c12, c13⟩ := q5.node
  simp only at c0 c1 c2 c3 c4 c5 c6 c7 c8 c9 c10 c11 c12 c13
  exact bodyPost_ret (v := .tuple #[nagg nzero, .bool false]) (by simp [results, Tryz.results90, go_sem, c0, c1, c2, c3, c4, c5, c6, c7, c8, c9, c10, c11, c12, c13]) rfl ⟨rfl, b5.out⟩
set_option maxHeartbeats 4000000 in
theorem vvisit_nil11 (lp s : Nat) (lo hi : Option Addr) (A : World) :
    Calls Tryz.prog 95 #[lan none none, plagg 0 lo hi s, .func (.yield lp) #[] #[]] A fun e B => e = .returned (.bool true) ∧ Below A.heap.size A B := by
  have hb : Below A.heap.size A ((A.alloc (.cells #[.pointer none, .pointer none] 26)).alloc (.cells (pcell4 0 lo hi s) 159)) := ((Below.refl _ A).alloc (Nat.le_refl _) _).alloc (by simp) _
  have e1 : (A.alloc (.cells #[.pointer none, .pointer none] 26)).heap.size = A.heap.size + 1 := by simp
  have q3 := (C2.new A 26 (.pointer none) (.pointer none)).alloc (.cells (pcell4 0 lo hi s) 159)
  have q4 := BC.new (A.alloc (.cells #[.pointer none, .pointer none] 26)) 159 (pcell4 0 lo hi s)
  rw [e1] at q4
  have HRD := Lib.hid (tread_nil 0 s lo hi ((A.alloc (.cells #[.pointer none, .pointer none] 26)).alloc (.cells (pcell4 0 lo hi s) 159)))
  have HB := Lib.hid hb
  obtain ⟨a0, a1, _⟩ := q3.all
  obtain ⟨p0, p1, p2, p3⟩ := q4.place
  clear hb e1 q3 q4
  refine (callsIn_wide (n := 1)).1 ?_
  refine callsIn_of_wp Tryz.func95 rfl trivial ?_ rfl
  simp only [Tryz.ntmps95, List.size_toArray, List.length_cons, List.length_nil, Nat.reduceAdd, Nat.reduceSub, Array.replicate_succ, Array.replicate_zero, List.push_toArray, List.append_toArray, List.nil_append, List.cons_append]
  gi_wp2
  refine ⟨trivial, (callsIn_wide.2 HRD.out).mono ?_⟩
  rintro e w2 ⟨rfl, hb2⟩
  have hb3 : Below A.heap.size A (w2.alloc (.cells (ncells nzero) 162)) := (HB.out.trans (hb2.mono HB.out.size)).alloc (Nat.le_trans HB.out.size hb2.size) _
  have HV := Lib.hid hb3
  have q9 := BC.new w2 162 (ncells nzero)
  obtain ⟨f0, f1, f2, f3, f4, f5, f6, f7, f8, f9, f10, f11, f12, f13⟩ := q9.fz14
  obtain ⟨c0, c1, c2, c3, c4, c5, c6, c7, c8, c9, c10, c11, c12, c13⟩ := q9.node
  clear q9 hb2 hb3 a0 a1 p0 p1 p2 p3 HRD HB
  simp only at c0 c1 c2 c3 c4 c5 c6 c7 c8 c9 c10 c11 c12 c13
  gi_wp2
  clear f0 f1 f2 f3 f4 f5 f6 f7 f8 f9 f10 f11 f12 f13 c0 c1 c2 c3 c4 c5 c6 c7 c8 c9 c10 c11 c12 c13
  change Code.wpIn _ _ _ _ _ _ (w2.alloc (.cells (ncells nzero) 162))
  generalize w2.alloc _ = w3 at HV ⊢
  generalize w2.heap.size = z7 at HV ⊢
  refine anyX_region (S := fun W' => Below A.heap.size A W') (X := []) (by kernel_rfl) ?_
  have hH : Below A.heap.size A w3.drew := HV.out.trans ((Below.refl _ w3).drew.mono HV.out.size)
  generalize w3.drew = W1 at hH ⊢
  clear HV
  refine AnyX.first (i := 0) (v := ?_) (by kernel_rfl) (by kernel_rfl) rfl (by kernel_rfl) (by kernel_rfl) (by kernel_rfl) (fun _ _ _ h => h) ⟨fun _ => rfl, Or.inl ⟨by rfl, ?_⟩⟩ hH ?_
  rotate_left
  · intro W' hS
    go_simp
    with_reducible rfl
  simp only [Act.put, List.setIfInBounds_toArray, List.set_cons_zero, List.set_cons_succ, List.getElem_toArray, List.getElem_cons_zero, List.getElem_cons_succ]
  refine AnyX.first (i := 1) (v := ?_) (by kernel_rfl) (by kernel_rfl) rfl (by kernel_rfl) (by kernel_rfl) (by kernel_rfl) (fun _ _ _ h => h) ⟨fun _ => rfl, Or.inl ⟨by rfl, ?_⟩⟩ hH ?_
  rotate_left
  · intro W' hS
    go_simp
    with_reducible rfl
  simp only [Act.put, List.setIfInBounds_toArray, List.set_cons_zero, List.set_cons_succ, List.getElem_toArray, List.getElem_cons_zero, List.getElem_cons_succ]
  refine AnyX.first (i := 2) (v := ?_) (by kernel_rfl) (by kernel_rfl) rfl (by kernel_rfl) (by kernel_rfl) (by kernel_rfl) (fun _ _ _ h => h) ⟨fun _ => rfl, Or.inl ⟨by rfl, ?_⟩⟩ hH ?_
  rotate_left
  · intro W' hS
    go_simp
    with_reducible rfl
  simp only [Act.put, List.setIfInBounds_toArray, List.set_cons_zero, List.set_cons_succ, List.getElem_toArray, List.getElem_cons_zero, List.getElem_cons_succ]
  refine AnyX.first (i := 3) (v := undef) (by kernel_rfl) (by kernel_rfl) rfl (by kernel_rfl) (by kernel_rfl) (by kernel_rfl) (fun _ _ _ h => h) ⟨fun _ => rfl, Or.inr ⟨by rfl, rfl⟩⟩ hH ?_
  simp only [Act.put, List.setIfInBounds_toArray, List.set_cons_zero, List.set_cons_succ, List.getElem_toArray, List.getElem_cons_zero, List.getElem_cons_succ]
  refine AnyX.first (i := 4) (v := undef) (by kernel_rfl) (by kernel_rfl) rfl (by kernel_rfl) (by kernel_rfl) (by kernel_rfl) (fun _ _ _ h => h) ⟨fun _ => rfl, Or.inr ⟨by rfl, rfl⟩⟩ hH ?_
  simp only [Act.put, List.setIfInBounds_toArray, List.set_cons_zero, List.set_cons_succ, List.getElem_toArray, List.getElem_cons_zero, List.getElem_cons_succ]
  refine AnyX.first (i := 6) (v := undef) (by kernel_rfl) (by kernel_rfl) rfl (by kernel_rfl) (by kernel_rfl) (by kernel_rfl) (fun _ _ _ h => h) ⟨fun _ => rfl, Or.inr ⟨by rfl, rfl⟩⟩ hH ?_
  simp only [Act.put, List.setIfInBounds_toArray, List.set_cons_zero, List.set_cons_succ, List.getElem_toArray, List.getElem_cons_zero, List.getElem_cons_succ]
  refine AnyX.one (i := 5) (by kernel_rfl) rfl (fun K hK => ?_)
  replace hK := Lib.hid hK
  go_simp
  refine ⟨trivial, ?_⟩
  refine hK.out _ _ ⟨.inr hH, ?_⟩
  clear hK K
  refine AnyX.one (i := 7) (by kernel_rfl) rfl (fun K hK => ?_)
  replace hK := Lib.hid hK
  go_simp
  refine ⟨trivial, ?_⟩
  refine hK.out _ _ ⟨.inr hH, ?_⟩
  clear hK K
  refine AnyX.first (i := 8) (v := undef) (by kernel_rfl) (by kernel_rfl) rfl (by kernel_rfl) (by kernel_rfl) (by kernel_rfl) (fun _ _ _ h => h) ⟨fun _ => rfl, Or.inr ⟨by rfl, rfl⟩⟩ hH ?_
  simp only [Act.put, List.setIfInBounds_toArray, List.set_cons_zero, List.set_cons_succ, List.getElem_toArray, List.getElem_cons_zero, List.getElem_cons_succ]
  refine AnyX.first (i := 9) (v := undef) (by kernel_rfl) (by kernel_rfl) rfl (by kernel_rfl) (by kernel_rfl) (by kernel_rfl) (fun _ _ _ h => h) ⟨fun _ => rfl, Or.inr ⟨by rfl, rfl⟩⟩ hH ?_
  simp only [Act.put, List.setIfInBounds_toArray, List.set_cons_zero, List.set_cons_succ, List.getElem_toArray, List.getElem_cons_zero, List.getElem_cons_succ]
  refine AnyX.first (i := 10) (v := undef) (by kernel_rfl) (by kernel_rfl) rfl (by kernel_rfl) (by kernel_rfl) (by kernel_rfl) (fun _ _ _ h => h) ⟨fun _ => rfl, Or.inr ⟨by rfl, rfl⟩⟩ hH ?_
  simp only [Act.put, List.setIfInBounds_toArray, List.set_cons_zero, List.set_cons_succ, List.getElem_toArray, List.getElem_cons_zero, List.getElem_cons_succ]
  refine AnyX.first (i := 11) (v := undef) (by kernel_rfl) (by kernel_rfl) rfl (by kernel_rfl) (by kernel_rfl) (by kernel_rfl) (fun _ _ _ h => h) ⟨fun _ => rfl, Or.inr ⟨by rfl, rfl⟩⟩ hH ?_
  simp only [Act.put, List.setIfInBounds_toArray, List.set_cons_zero, List.set_cons_succ, List.getElem_toArray, List.getElem_cons_zero, List.getElem_cons_succ]
  refine AnyX.first (i := 12) (v := undef) (by kernel_rfl) (by kernel_rfl) rfl (by kernel_rfl) (by kernel_rfl) (by kernel_rfl) (fun _ _ _ h => h) ⟨fun _ => rfl, Or.inr ⟨by rfl, rfl⟩⟩ hH ?_
  simp only [Act.put, List.setIfInBounds_toArray, List.set_cons_zero, List.set_cons_succ, List.getElem_toArray, List.getElem_cons_zero, List.getElem_cons_succ]
  refine AnyX.first (i := 13) (v := undef) (by kernel_rfl) (by kernel_rfl) rfl (by kernel_rfl) (by kernel_rfl) (by kernel_rfl) (fun _ _ _ h => h) ⟨fun _ => rfl, Or.inr ⟨by rfl, rfl⟩⟩ hH ?_
  simp only [Act.put, List.setIfInBounds_toArray, List.set_cons_zero, List.set_cons_succ, List.getElem_toArray, List.getElem_cons_zero, List.getElem_cons_succ]
  refine AnyX.first (i := 14) (v := undef) (by kernel_rfl) (by kernel_rfl) rfl (by kernel_rfl) (by kernel_rfl) (by kernel_rfl) (fun _ _ _ h => h) ⟨fun _ => rfl, Or.inr ⟨by rfl, rfl⟩⟩ hH ?_
  simp only [Act.put, List.setIfInBounds_toArray, List.set_cons_zero, List.set_cons_succ, List.getElem_toArray, List.getElem_cons_zero, List.getElem_cons_succ]
  refine AnyX.first (i := 15) (v := undef) (by kernel_rfl) (by kernel_rfl) rfl (by kernel_rfl) (by kernel_rfl) (by kernel_rfl) (fun _ _ _ h => h) ⟨fun _ => rfl, Or.inr ⟨by rfl, rfl⟩⟩ hH ?_
  simp only [Act.put, List.setIfInBounds_toArray, List.set_cons_zero, List.set_cons_succ, List.getElem_toArray, List.getElem_cons_zero, List.getElem_cons_succ]
  refine AnyX.first (i := 16) (v := undef) (by kernel_rfl) (by kernel_rfl) rfl (by kernel_rfl) (by kernel_rfl) (by kernel_rfl) (fun _ _ _ h => h) ⟨fun _ => rfl, Or.inr ⟨by rfl, rfl⟩⟩ hH ?_
  simp only [Act.put, List.setIfInBounds_toArray, List.set_cons_zero, List.set_cons_succ, List.getElem_toArray, List.getElem_cons_zero, List.getElem_cons_succ]
  refine AnyX.first (i := 18) (v := undef) (by kernel_rfl) (by kernel_rfl) rfl (by kernel_rfl) (by kernel_rfl) (by kernel_rfl) (fun _ _ _ h => h) ⟨fun _ => rfl, Or.inr ⟨by rfl, rfl⟩⟩ hH ?_
  simp only [Act.put, List.setIfInBounds_toArray, List.set_cons_zero, List.set_cons_succ, List.getElem_toArray, List.getElem_cons_zero, List.getElem_cons_succ]
  refine AnyX.one (i := 17) (by kernel_rfl) rfl (fun K hK => ?_)
  replace hK := Lib.hid hK
  go_simp
  refine ⟨trivial, ?_⟩
  refine hK.out _ _ ⟨.inr hH, ?_⟩
  clear hK K
  refine AnyX.one (i := 19) (by kernel_rfl) rfl (fun K hK => ?_)
  replace hK := Lib.hid hK
  go_simp
  refine ⟨trivial, ?_⟩
  refine hK.out _ _ ⟨.inr hH, ?_⟩
  clear hK K
  refine AnyX.first (i := 20) (v := undef) (by kernel_rfl) (by kernel_rfl) rfl (by kernel_rfl) (by kernel_rfl) (by kernel_rfl) (fun _ _ _ h => h) ⟨fun _ => rfl, Or.inr ⟨by rfl, rfl⟩⟩ hH ?_
  simp only [Act.put, List.setIfInBounds_toArray, List.set_cons_zero, List.set_cons_succ, List.getElem_toArray, List.getElem_cons_zero, List.getElem_cons_succ]
  refine AnyX.first (i := 21) (v := ?_) (by kernel_rfl) (by kernel_rfl) rfl (by kernel_rfl) (by kernel_rfl) (by kernel_rfl) (fun _ _ _ h => h) ⟨fun _ => rfl, Or.inl ⟨by rfl, ?_⟩⟩ hH ?_
  rotate_left
  · intro W' hS
    go_simp
    with_reducible rfl
  simp only [Act.put, List.setIfInBounds_toArray, List.set_cons_zero, List.set_cons_succ, List.getElem_toArray, List.getElem_cons_zero, List.getElem_cons_succ]
  refine AnyX.first (i := 22) (v := ?_) (by kernel_rfl) (by kernel_rfl) rfl (by kernel_rfl) (by kernel_rfl) (by kernel_rfl) (fun _ _ _ h => h) ⟨fun _ => rfl, Or.inl ⟨by rfl, ?_⟩⟩ hH ?_
  rotate_left
  · intro W' hS
    go_simp
    with_reducible rfl
  simp only [Act.put, List.setIfInBounds_toArray, List.set_cons_zero, List.set_cons_succ, List.getElem_toArray, List.getElem_cons_zero, List.getElem_cons_succ]
  refine AnyX.done (by kernel_rfl) ?_ _
  have HF := Lib.hid hH
  clear hH
  gi_wp2
  exact bodyPost_ret (v := .bool true) (by simp [results, Tryz.results95, go_sem]) rfl ⟨rfl, HF.out⟩
theorem pairs_nil11 (zl zm : Nat) (Kk : World → World → Prop) (w : World) (q1 : C2 w zl 26 (.pointer none) (.pointer none)) (q2 : C2 w zm 72 (.int .i64 0) (.int .i64 0)) :
    Gives8 Tryz.prog 94 (fun v => #[] ++ #[v] ++ #[.pointer (some ⟨zl, 0, none⟩), .pointer (some ⟨zm, 0, none⟩)]) (fun p : Pr => #[pagg p]) Kk [] w := by
  intro lp J Jx W hW hJ hJx hY h0
  have hnil : ∀ W : World, Sem.run Tryz.prog (binOp .neq 127 (.func (.yield lp) #[] #[]) .nilFunc) W = .ok (.bool true) W := fun _ => by kernel_rfl
  have HV := Lib.hid (vvisit_nil11 lp 0 none none W)
  have x0 := (q1.below hW).c0
  have x1 := (q1.below hW).c1
  have y1 := (q2.below hW).c1
  have HJ := Lib.hid (fun B (hb : Below W.heap.size W B) => hJ _ _ _ h0 hb)
  clear q1 q2 hJ hJx hY h0
  refine (callsIn_wide (n := 1)).1 ?_
  refine callsIn_of_wp Tryz.func94 rfl trivial ?_ rfl
  simp only [Tryz.ntmps94, List.size_toArray, List.length_cons, List.length_nil, Nat.reduceAdd, Nat.reduceSub, Array.replicate_succ, Array.replicate_zero, List.push_toArray, List.append_toArray, List.nil_append, List.cons_append]
  gi_wp2
  refine ⟨trivial, (callsIn_wide.2 HV.out).mono ?_⟩
  rintro e w' ⟨rfl, hb⟩
  have H1 := Lib.hid (HJ.out w' hb)
  clear hb x0 x1 y1
  gi_wp2
  go_end0
  exact ⟨⟨_, rfl⟩, .inl H1.out⟩
set_option maxHeartbeats 1600000 in
theorem tappend_none (zl zm : Nat) (w : World) (hg : ∀ W, Below w.heap.size w W → Gives8 Tryz.prog 94 (fun v => #[] ++ #[v] ++ #[.pointer (some ⟨zl, 0, none⟩), .pointer (some ⟨zm, 0, none⟩)]) (fun p : Pr => #[pagg p]) (fun _ _ => True) [] W) :
    Calls Tryz.prog 67 #[.slice none 0 0, seqt zl zm] w fun e w' => e = .returned (.slice none 0 0) ∧ Below w.heap.size w w' := by
  have hb : Below w.heap.size w (w.alloc (.cells #[.slice none 0 0] 45)) := (Below.refl _ w).alloc (Nat.le_refl _) _
  have q2 := C1.new w 45 (.slice none 0 0)
  have HG := Lib.hid (hg _ hb)
  have HX := Lib.hid (And.intro q2 hb)
  clear hg hb q2
  refine (callsIn_wide (n := 3)).1 ?_
  refine callsIn_of_wp_marks Tryz.func67 rfl trivial ?_ rfl
  refine wpIn_wide.2 ?_
  simp only [Tryz.ntmps67, List.size_toArray, List.length_cons, List.length_nil, Nat.reduceAdd, Nat.reduceSub, Array.replicate_succ, Array.replicate_zero, List.push_toArray, List.append_toArray, List.nil_append, List.cons_append]
  go_wp2_with fail
  have hsz : (w.alloc (.cells #[.slice none 0 0] 45)).heap.size = w.heap.size + 1 := by simp
  refine wp_range8 (encs := fun p : Pr => #[pagg p]) (first := #[]) (last := #[.pointer (some ⟨zl, 0, none⟩), .pointer (some ⟨zm, 0, none⟩)]) (f := 94) rfl (fun _ _ => rfl) (fun _ => rfl) HG.out (fun _ _ => trivial) (fun _ _ _ _ _ _ _ _ => trivial)
    (fun _ W => C1 W w.heap.size 45 (.slice none 0 0) ∧ Below w.heap.size w W) (fun _ _ _ => False) ?_ (fun c _ _ _ _ h => h.elim) HX.out ?_ ?_ (fun _ _ _ _ _ _ h => h.elim)
  · intro _ W W' row h hg hr
    exact ⟨h.1.own hg hr, below_own_from h.2 (by rw [hsz]; omega) hg hr⟩
  · intro l i x W hx
    cases hx
  · intro D W hD hI hdef
    have hlo : w.heap.size < D := by rw [hsz] at hD; omega
    have hq := (hI.1.kp (kp_putObj (x := D) (o := .deferred none)) (by omega))
    have HE := Lib.hid (And.intro hdef (show Below w.heap.size w (W.putObj D (.deferred none)) from below_kp hI.2 (kp_putObj (x := D)) (fun q e => by omega)))
    have r0 := hI.1.c0
    clear hI hdef hD hq
    go_wp2_with fail
    refine ⟨by simp, .inl ⟨_, _, rfl, run_takeDeferred HE.out.1, ?_⟩⟩
    exact ⟨_, by simp [results, Tryz.results67, go_sem], rfl, HE.out.2⟩
theorem tcollect_none (zl zm : Nat) (w : World) (hg : ∀ W, Below w.heap.size w W → Gives8 Tryz.prog 94 (fun v => #[] ++ #[v] ++ #[.pointer (some ⟨zl, 0, none⟩), .pointer (some ⟨zm, 0, none⟩)]) (fun p : Pr => #[pagg p]) (fun _ _ => True) [] W) :
    Calls Tryz.prog 17 #[seqt zl zm] w fun e w' => e = .returned (.slice none 0 0) ∧ Below w.heap.size w w' := by
  have HA := Lib.hid (tappend_none zl zm w hg)
  clear hg
  go_enter Tryz.func17, Tryz.ntmps17
  go_wp2_with fail
  refine HA.out.mono ?_
  rintro e w' ⟨rfl, hb⟩
  have HB := Lib.hid hb
  clear hb
  go_wp2_with fail
  exact bodyPost_ret (v := .slice none 0 0) (by simp [results, Tryz.results17, go_sem]) rfl ⟨rfl, HB.out⟩
theorem tPut_nil (k v : Ky) (ow : Int) (w : World) :
    Calls Tryz.prog 41 #[lan none none, .agg #[.int .i64 0, .int .i64 0], xagg k, xagg v, .int .u32 ow] w fun e w' => e = .returned (.tuple #[.agg #[.int .i64 0, .int .i64 0], .int .i64 1]) ∧ Below w.heap.size w w' := by
  obtain ⟨W0, hW0⟩ : ∃ W0, W0 = (((((w.alloc (.cells #[.pointer none, .pointer none] 26)).alloc (.cells #[.int .i64 0, .int .i64 0] 72)).alloc (.cells #[.int .u8 k.1, .int .i64 k.2.1, .string k.2.2] 36)).alloc (.cells #[.int .u8 v.1, .int .i64 v.2.1, .string v.2.2] 36)).alloc (.cells #[.int .i64 0, .int .i64 0] 72)) := ⟨_, rfl⟩
  have hb0 : Below w.heap.size w W0 := by rw [hW0]; exact (((((Below.refl _ w).alloc (Nat.le_refl _) _).alloc (by simp) _).alloc (by simp; omega) _).alloc (by simp; omega) _).alloc (by simp; omega) _
  have q1 : C2 W0 w.heap.size 26 (.pointer none) (.pointer none) := by rw [hW0]; exact ((((C2.new w 26 (.pointer none) (.pointer none)).alloc _).alloc _).alloc _).alloc _
  have q10 : C2 W0 (w.heap.size + 1 + 1 + 1 + 1) 72 (.int .i64 0) (.int .i64 0) := by
    have h := C2.new ((((w.alloc (.cells #[.pointer none, .pointer none] 26)).alloc (.cells #[.int .i64 0, .int .i64 0] 72)).alloc (.cells #[.int .u8 k.1, .int .i64 k.2.1, .string k.2.2] 36)).alloc (.cells #[.int .u8 v.1, .int .i64 v.2.1, .string v.2.2] 36)) 72 (.int .i64 0) (.int .i64 0)
    rw [hW0]
    simpa using h
  have HLK := Lib.hid tlacks_no
  have HW0 := Lib.hid hW0
  have HB0 := Lib.hid hb0
  have HQ := Lib.hid q10
  have x0 := q1.c0
  have x1 := q1.c1
  clear hW0 hb0 q1 q10
  go_enter Tryz.func41, Tryz.ntmps41
  go_upto_region 1 with fail
  rw [← HW0.out]
  clear HW0
  go_wp2_with fail
  refine (HLK.out _).mono ?_
  rintro e w1 ⟨rfl, hb1⟩
  have HB1 := Lib.hid (HB0.out.trans (hb1.mono HB0.out.size))
  obtain ⟨r0, r1, g0, g1⟩ := (HQ.out.below hb1).all
  have FIN := Lib.hid (fun w9 (h9 : Kp (fun q => q = w.heap.size + 1 + 1 + 1 + 1) w1 w9) => (show Below w.heap.size w w9 from below_kp HB1.out h9 (fun q e => by omega)))
  clear hb1 x0 x1 HQ HLK
  go_wp2_with fail
  refine bodyPost_ret (v := .tuple #[.agg #[.int .i64 0, .int .i64 0], .int .i64 1]) (by simp [results, Tryz.results41, go_sem, r0, r1]) rfl ⟨rfl, FIN.out _ ?_⟩
  repeat first
    | with_reducible exact Kp.refl _ _
    | with_reducible refine Kp.setCell ?_ (by simp) _
end
end Go.Proofs.YtaapcfoaaopihaaGreat

namespace Go.Proofs.YtaapcfoaaopihaaGreat
set_option maxRecDepth 100000
set_option linter.unusedSimpArgs false
set_option linter.unusedVariables false
open Go.RowKit
abbrev znil (k : Ky) : Array Value := #[.pointer none, .pointer none, .int .u32 0, .int .u8 k.1, .int .i64 k.2.1, .string k.2.2, .int .i64 0, .slice none 0 0, .int .u8 0, .int .i64 0, .string ⟨#[]⟩, .int .u8 0, .int .i64 0, .string ⟨#[]⟩, .int .i64 0, .pointer none, .pointer none, .int .i64 0, .int .u64 0, .int .i64 0, .int .i64 0, .int .i64 0, .bool false]
abbrev nz1 : Nv := ⟨(0, 0, ⟨#[]⟩), (0, 0, ⟨#[]⟩), 0, none, none, 0, 0, 0, 0, 1⟩
section
theorem alone_nil (i : Int) (w : World) : Calls Tryz.prog 189 #[.pointer none, .int .i64 i, .int .u32 0] w fun e w' => e = .returned (.bool false) ∧ Below w.heap.size w w' := by
  have hb := Below.refl w.heap.size w
  go_enter Tryz.func189, Tryz.ntmps189
  go_wp2_with fail
  go_ret
  exact ⟨rfl, hb⟩
theorem fresh_nil (g : Nat) (w : World) (h : C1 w g 3 (.int .i64 ((0 : Nat) : Int))) : Calls Tryz.prog 163 #[.pointer none, .int .u32 0, .slice (some ⟨g, 0, none⟩) 1 1] w fun e w' => e = .returned (.int .i64 1) ∧ Below w.heap.size w w' := by
  have HC := Lib.hid h
  clear h
  go_enter Tryz.func163, Tryz.ntmps163
  go_wp2_with fail
  go_loopg [11] 1 (fun c' i wr => i = .int .i64 0 ∧ Below w.heap.size w wr)
  case atStart => exact ⟨rfl, Below.refl _ _⟩
  case round =>
    obtain ⟨rfl, hb⟩ := hrel
    have x0 := (HC.out.below hb).c0
    have HB := Lib.hid hb
    clear hb
    go_wp2_with (go_at_call 189; refine (alone_nil _ _).mono ?_; rintro e w1 ⟨rfl, hb1⟩; have HB1 := Lib.hid (HB.out.trans (hb1.mono HB.out.size)); clear hb1)
    go_ret
    exact ⟨rfl, HB1.out⟩
set_option maxHeartbeats 8000000 in
theorem wread_nil (k : Ky) (w : World) :
    Calls Tryz.prog 127 #[.agg (znil k), plagg 0 none none 0] w fun e w' => e = .returned (.tuple #[nagg nz1, .bool false]) ∧ Below w.heap.size w w' := by
  have hb : Below w.heap.size w (((w.alloc (.cells (znil k) 164)).alloc (.cells (pcell4 0 none none 0) 159)).alloc (.cells (ncells nzero) 162)) := (((Below.refl _ w).alloc (Nat.le_refl _) _).alloc (by simp) _).alloc (by simp; omega) _
  have e1 : (w.alloc (.cells (znil k) 164)).heap.size = w.heap.size + 1 := by simp
  have e2 : ((w.alloc (.cells (znil k) 164)).alloc (.cells (pcell4 0 none none 0) 159)).heap.size = w.heap.size + 1 + 1 := by simp
  have q2 := ((BC.new w 164 (znil k)).alloc (.cells (pcell4 0 none none 0) 159)).alloc (.cells (ncells nzero) 162)
  have q3 := (BC.new (w.alloc (.cells (znil k) 164)) 159 (pcell4 0 none none 0)).alloc (.cells (ncells nzero) 162)
  have q4 := BC.new ((w.alloc (.cells (znil k) 164)).alloc (.cells (pcell4 0 none none 0) 159)) 162 (ncells nzero)
  rw [e1] at q3
  rw [e2] at q4
  have HR := Lib.hid (tread_nil 0 0 none none (((w.alloc (.cells (znil k) 164)).alloc (.cells (pcell4 0 none none 0) 159)).alloc (.cells (ncells nzero) 162)))
  have HB := Lib.hid hb
  clear hb e1 e2
  go_enter Tryz.func127, Tryz.ntmps127
  go_upto_region 1 with fail
  change Code.wp _ _ _ _ (((w.alloc (.cells (znil k) 164)).alloc (.cells (pcell4 0 none none 0) 159)).alloc (.cells (ncells nzero) 162))
  generalize World.alloc (World.alloc (w.alloc _) _) _ = W1 at q2 q3 q4 HB HR ⊢
  obtain ⟨z2, hz2⟩ : ∃ z, z = w.heap.size := ⟨_, rfl⟩
  obtain ⟨z3, hz3⟩ : ∃ z, z = w.heap.size + 1 := ⟨_, rfl⟩
  obtain ⟨z4, hz4⟩ : ∃ z, z = w.heap.size + 1 + 1 := ⟨_, rfl⟩
  have HZ := Lib.hid (And.intro hz2 (And.intro hz3 hz4))
  rw [← hz4] at q4
  rw [← hz3] at q3
  rw [← hz2] at q2
  rw [← hz4, ← hz3, ← hz2]
  clear hz2 hz3 hz4
  have a0 : W1.cell? ⟨z2, 0, none⟩ = some (.pointer none) := q2.at rfl
  have a1 : W1.cell? ⟨z2, 1, none⟩ = some (.pointer none) := q2.at rfl
  obtain ⟨p0, p1, p2, p3⟩ := q3.place
  go_wp2_with fail
  refine HR.out.mono ?_
  rintro e w2 ⟨rfl, hb2⟩
  clear HR a0 a1 p0 p1 p2 p3
  go_upto_region 2 with fail
  have q6 := BC.new w2 162 (ncells nzero)
  have hb3 : Below w2.heap.size w2 (w2.alloc (.cells (ncells nzero) 162)) := (Below.refl _ w2).alloc (Nat.le_refl _) _
  have hb4 := hb2.trans (hb3.mono hb2.size)
  have HZ6 := Lib.hid (show z4 < w2.heap.size from Nat.lt_of_lt_of_le q4.lt hb2.size)
  have HB3 := Lib.hid (HB.out.trans (hb4.mono HB.out.size))
  replace q2 := q2.below hb4
  replace q3 := q3.below hb4
  replace q4 := q4.below hb4
  clear hb2 hb3 hb4 HB
  change Code.wp _ _ _ _ (w2.alloc (.cells (ncells nzero) 162))
  generalize w2.alloc _ = W3 at q2 q3 q4 q6 HB3 ⊢
  generalize w2.heap.size = z6 at q6 HZ6 ⊢
  have HZ2 := Lib.hid (show z2 ≠ z6 ∧ z3 ≠ z6 from by have := HZ.out; have := HZ6.out; omega)
  have A0 := fun (W' : World) (hb : Kp (fun z => z = z6) W3 W') => (show W'.cell? ⟨z2, 0, none⟩ = some (.pointer none) from (q2.kp hb HZ2.out.1).at rfl)
  have A2 := fun (W' : World) (hb : Kp (fun z => z = z6) W3 W') => (show W'.cell? ⟨z2, 2, none⟩ = some (.int .u32 0) from (q2.kp hb HZ2.out.1).at rfl)
  have P0 := fun (W' : World) (hb : Kp (fun z => z = z6) W3 W') => (q3.kp hb HZ2.out.2).place.1
  have P3 := fun (W' : World) (hb : Kp (fun z => z = z6) W3 W') => (q3.kp hb HZ2.out.2).place.2.2.2
  refine wp_region_noPanic ?_
  refine wp_region_held_drew (S := fun W' => Kp (fun z => z = z6) W3 W') (by kernel_rfl) (Kp.of_below (Below.refl _ W3).drew _) (fun hH => ?_)
  have hB := (Below.refl W3.heap.size W3).drew
  generalize W3.drew = Wc at hH hB ⊢
  refine tkH ?_ 0 hH ?_ ?_; rotate_left
  · intro W' hS; go_simp; with_reducible rfl
  simp only [tkr]
  refine tkH ?_ 1 hH ?_ ?_; rotate_left
  · intro W' hS; go_simp; with_reducible rfl
  simp only [tkr]
  refine tkH ?_ 2 hH ?_ ?_; rotate_left
  · intro W' hS; go_simp; with_reducible rfl
  simp only [tkr]
  refine tkH ?_ 3 hH ?_ ?_; rotate_left
  · intro W' hS; go_simp; with_reducible rfl
  simp only [tkr]
  refine tkH ?_ 4 hH ?_ ?_; rotate_left
  · intro W' hS; go_simp; with_reducible rfl
  simp only [tkr]
  refine tkH ?_ 5 hH ?_ ?_; rotate_left
  · intro W' hS; go_simp; with_reducible rfl
  simp only [tkr]
  refine tkH ?_ 6 hH ?_ ?_; rotate_left
  · intro W' hS; go_simp; with_reducible rfl
  simp only [tkr]
  refine tkH ?_ 7 hH ?_ ?_; rotate_left
  · intro W' hS; go_simp; with_reducible rfl
  simp only [tkr]
  refine tkH ?_ 8 hH ?_ ?_; rotate_left
  · intro W' hS; go_simp; with_reducible rfl
  simp only [tkr]
  refine rdH 9 rfl (fun K hK => ?_)
  go_simp
  have hrd := C1.new Wc 3 (.int .i64 ((0 : Nat) : Int))
  have hbn : Below Wc.heap.size Wc (Wc.alloc (.cells #[.int .i64 ((0 : Nat) : Int)] 3)) := (Below.refl _ Wc).alloc (Nat.le_refl _) _
  have hH2 := hH.trans (Kp.of_below hbn (fun z => z = z6)) (fun _ => .inl)
  replace hB := hB.trans (hbn.mono hB.size)
  refine hK.out _ _ hH2 (fun hH => ?_)
  clear hK K hH2 hbn
  generalize World.alloc _ _ = Wn at hrd hH hB ⊢
  generalize Wc.heap.size = g at hrd ⊢
  rename World => Wc
  refine rdH 10 rfl (fun K hK => ?_)
  go_simp
  have HF := Lib.hid (fresh_nil g Wc hrd)
  refine HF.out.mono ?_
  rintro e Wn ⟨rfl, hbn⟩
  have hH2 := hH.trans (Kp.of_below hbn (fun z => z = z6)) (fun _ => .inl)
  replace hB := hB.trans (hbn.mono hB.size)
  simp only
  refine hK.out _ _ hH2 (fun hH => ?_)
  clear hK K hH2 hbn hrd HF
  rename World => Wc
  refine rdH 11 rfl (fun K hK => ?_)
  go_simp
  rw [show max (0 : Int) 1 = 1 by decide]
  refine hK.out _ _ hH (fun hH => ?_)
  clear hK K
  refine tkH ?_ 12 hH ?_ ?_; rotate_left
  · intro W' hS; go_simp; with_reducible rfl
  simp only [tkr]
  refine rdH 13 rfl (fun K hK => ?_)
  have q6' := q6.below hB
  have c13 := q6'.node.2.2.2.2.2.2.2.2.2.2.2.2.2
  have f13 := q6'.fz 13
  go_simp
  clear c13 f13
  have kz : Kp (fun z => z = z6) Wc (Wc.setCell ⟨z6, 13, none⟩ (.int .i64 1)) := (Kp.refl (fun z => z = z6) Wc).setCell (.inl rfl) _
  have hz6 := HZ6.out
  have q9 : BC (Wc.setCell ⟨z6, 13, none⟩ (.int .i64 1)) z6 162 (ncells nz1) := by
    have := q6'.set 13 (.int .i64 1)
    simp only [List.setIfInBounds_toArray, List.set_cons_zero, List.set_cons_succ] at this
    exact this
  have q4' := (q4.below hB).kp kz (by omega)
  have hbw := (HB3.out.trans (hB.mono HB3.out.size)).setCell (p := ⟨z6, 13, none⟩) (show w.heap.size ≤ z6 by have := HZ.out; omega) (.int .i64 1)
  refine hK.out _ _ (hH.trans kz (fun _ => .inl)) (fun hH => ?_)
  clear hK K hH kz q6'
  generalize World.setCell Wc _ _ = W5 at q9 q4' hbw ⊢
  have HBW := Lib.hid hbw
  clear hbw
  refine wpAnyH_done (by kernel_rfl) ?_ _
  refine NoPanic.normal ?_
  clear A0 A2 P0 P3
  obtain ⟨c0, c1, c2, c3, c4, c5, c6, c7, c8, c9, c10, c11, c12, c13⟩ := q9.node
  simp only at c0 c1 c2 c3 c4 c5 c6 c7 c8 c9 c10 c11 c12 c13
  obtain ⟨d0, d1, d2, d3, d4, d5, d6, d7, d8, d9, d10, d11, d12, d13⟩ := q4'.node
  simp only at d0 d1 d2 d3 d4 d5 d6 d7 d8 d9 d10 d11 d12 d13
  obtain ⟨f0, f1, f2, f3, f4, f5, f6, f7, f8, f9, f10, f11, f12, f13⟩ := q4'.fz14
  go_wp2_with fail
  clear c0 c1 c2 c3 c4 c5 c6 c7 c8 c9 c10 c11 c12 c13 d0 d1 d2 d3 d4 d5 d6 d7 d8 d9 d10 d11 d12 d13 f0 f1 f2 f3 f4 f5 f6 f7 f8 f9 f10 f11 f12 f13
  have q10 := q4'.setN nz1
  have b10 := Lib.hid (below_setN HBW.out (show w.heap.size ≤ z4 by have := HZ.out; omega) nz1)
  change bodyPost _ _ _ _ _ (setN W5 z4 nz1)
  generalize setN W5 z4 _ = W7 at q10 b10 ⊢
  obtain ⟨c0, c1, c2, c3, c4, c5, c6, c7, c8, c9, c10, c11, c12, c13⟩ := q10.node
  simp only at c0 c1 c2 c3 c4 c5 c6 c7 c8 c9 c10 c11 c12 c13
  refine bodyPost_ret (v := .tuple #[nagg nz1, .bool false]) (by simp [results, Tryz.results127, go_sem, c0, c1, c2, c3, c4, c5, c6, c7, c8, c9, c10, c11, c12, c13]) rfl ⟨rfl, b10.out⟩
end
end Go.Proofs.YtaapcfoaaopihaaGreat

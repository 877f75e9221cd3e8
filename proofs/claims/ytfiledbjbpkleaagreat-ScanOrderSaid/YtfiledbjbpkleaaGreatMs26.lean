/- Several texts in one. -/
import Derived.Test.YtfiledbjbpkleaaGreatMs25
import Derived.Test.YtfiledbjbpkleaaGreatMs11
set_option linter.unusedSimpArgs false
namespace Go.Proofs.YtfiledbjbpkleaaGreat
set_option maxRecDepth 100000
set_option linter.unusedSimpArgs false
set_option linter.unusedVariables false
open Go.RowKit
theorem gaF_drop {s most : Nat} : ∀ (l : List Pr) (i : Nat) (acc : List Pr), acc.length ≤ most → gaF most (fun i _ => decide (s ≤ i)) i l acc = acc ++ (l.drop (s - i)).take (most - acc.length)
  | [], i, acc, _ => by unfold gaF; simp
  | p :: l, i, acc, h => by
    unfold gaF
    by_cases e : acc.length = most
    · rw [if_pos e, e]; simp
    · rw [if_neg e]
      by_cases hs : s ≤ i
      · have h1 := gaF_drop (s := s) (most := most) l (i + 1) (acc ++ [p]) (by simp; omega)
        have e1 : s - (i + 1) = 0 := by omega
        have e2 : s - i = 0 := by omega
        have e3 : most - acc.length = (most - (acc ++ [p]).length) + 1 := by simp; omega
        simp only [hs, decide_true, if_true]
        rw [h1, e1, e2, e3, List.drop_zero, List.drop_zero, List.take_succ_cons, List.append_assoc]
        rfl
      · have h1 := gaF_drop (s := s) (most := most) l (i + 1) acc h
        have e1 : s - i = (s - (i + 1)) + 1 := by omega
        simp only [hs, decide_false, Bool.false_eq_true, if_false]
        rw [h1, e1, List.drop_succ_cons]
theorem gaF_filter {f : Pr → Bool} {most : Nat} : ∀ (l : List Pr) (i : Nat) (acc : List Pr), acc.length ≤ most → gaF most (fun _ p => f p) i l acc = acc ++ (l.filter f).take (most - acc.length)
  | [], i, acc, _ => by unfold gaF; simp
  | p :: l, i, acc, h => by
    unfold gaF
    by_cases e : acc.length = most
    · rw [if_pos e, e]; simp
    · rw [if_neg e]
      cases hf : f p
      · have h1 := gaF_filter (f := f) (most := most) l (i + 1) acc h
        simp only [Bool.false_eq_true, if_false]
        rw [h1, List.filter_cons, hf]
        simp
      · have h1 := gaF_filter (f := f) (most := most) l (i + 1) (acc ++ [p]) (by simp; omega)
        have e3 : most - acc.length = (most - (acc ++ [p]).length) + 1 := by simp; omega
        simp only [if_true]
        rw [h1, List.filter_cons, hf, e3]
        simp
section
set_option maxHeartbeats 4000000 in
theorem vscompare {b bh seed : Nat} {hs : Ky → Nat} (a c : Ky) (w : World) (hh : Hs w bh seed) (hhs : ∀ q, OkK q → hs q = hashN seed q.1 q.2.1 q.2.2) (ha : OkK a) (hc : OkK c) :
    Calls Tryz.prog 34 #[land b bh, xagg a, xagg c] w fun e w' => e = .returned (.int .i64 (ordN (hs a) (hs c) a c)) ∧ Kp (fun q => q = bh) w w' ∧ Hs w' bh seed := by
  have HO := Lib.hid (And.intro ha (And.intro hc (And.intro (hhs a ha) (hhs c hc))))
  have hbl := hh.lt
  have st : C2 (((w.alloc (.cells #[ap b, .pointer (some ⟨bh, 0, none⟩)] 26)).alloc (.cells #[.int .u8 a.1, .int .i64 a.2.1, .string a.2.2] 36)).alloc (.cells #[.int .u8 c.1, .int .i64 c.2.1, .string c.2.2] 36)) w.heap.size 26 (ap b) (.pointer (some ⟨bh, 0, none⟩)) ∧ C3 (((w.alloc (.cells #[ap b, .pointer (some ⟨bh, 0, none⟩)] 26)).alloc (.cells #[.int .u8 a.1, .int .i64 a.2.1, .string a.2.2] 36)).alloc (.cells #[.int .u8 c.1, .int .i64 c.2.1, .string c.2.2] 36)) (w.heap.size + 1) 36 (.int .u8 a.1) (.int .i64 a.2.1) (.string a.2.2) ∧ C3 (((w.alloc (.cells #[ap b, .pointer (some ⟨bh, 0, none⟩)] 26)).alloc (.cells #[.int .u8 a.1, .int .i64 a.2.1, .string a.2.2] 36)).alloc (.cells #[.int .u8 c.1, .int .i64 c.2.1, .string c.2.2] 36)) (w.heap.size + 1 + 1) 36 (.int .u8 c.1) (.int .i64 c.2.1) (.string c.2.2) := by
    refine ⟨((C2.new w _ _ _).alloc _).alloc _, ?_, ?_⟩
    · have h := (C3.new (w.alloc (.cells #[ap b, .pointer (some ⟨bh, 0, none⟩)] 26)) 36 (.int .u8 a.1) (.int .i64 a.2.1) (.string a.2.2)).alloc (.cells #[.int .u8 c.1, .int .i64 c.2.1, .string c.2.2] 36)
      simpa using h
    · have h := C3.new ((w.alloc (.cells #[ap b, .pointer (some ⟨bh, 0, none⟩)] 26)).alloc (.cells #[.int .u8 a.1, .int .i64 a.2.1, .string a.2.2] 36)) 36 (.int .u8 c.1) (.int .i64 c.2.1) (.string c.2.2)
      simpa using h
  have hb0 : Below w.heap.size w (((w.alloc (.cells #[ap b, .pointer (some ⟨bh, 0, none⟩)] 26)).alloc (.cells #[.int .u8 a.1, .int .i64 a.2.1, .string a.2.2] 36)).alloc (.cells #[.int .u8 c.1, .int .i64 c.2.1, .string c.2.2] 36)) := (((Below.refl _ w).alloc (Nat.le_refl _) _).alloc (by simp) _).alloc (by simp; omega) _
  have HH := Lib.hid (hh.below hb0)
  clear hh hhs ha hc
  go_enter Tryz.func34, Tryz.ntmps34
  go_upto_region 1 with fail
  generalize ((w.alloc (.cells #[ap b, .pointer (some ⟨bh, 0, none⟩)] 26)).alloc (.cells #[.int .u8 a.1, .int .i64 a.2.1, .string a.2.2] 36)).alloc (.cells #[.int .u8 c.1, .int .i64 c.2.1, .string c.2.2] 36) = W1 at st hb0 HH ⊢
  obtain ⟨z5, hz5⟩ : ∃ z, z = w.heap.size + 1 + 1 := ⟨_, rfl⟩
  obtain ⟨z4, hz4⟩ : ∃ z, z = w.heap.size + 1 := ⟨_, rfl⟩
  obtain ⟨z3, hz3⟩ : ∃ z, z = w.heap.size := ⟨_, rfl⟩
  rw [← hz5, ← hz4, ← hz3] at st
  rw [← hz5, ← hz4, ← hz3]
  have HZ := Lib.hid (show bh ≠ z3 ∧ bh ≠ z4 ∧ bh ≠ z5 from ⟨by omega, by omega, by omega⟩)
  clear hz5 hz4 hz3 hbl
  have l1 : ∀ W', (C2 W' z3 26 (ap b) (.pointer (some ⟨bh, 0, none⟩)) ∧ C3 W' z4 36 (.int .u8 a.1) (.int .i64 a.2.1) (.string a.2.2) ∧ C3 W' z5 36 (.int .u8 c.1) (.int .i64 c.2.1) (.string c.2.2)) → W'.cell? ⟨z3, 1, none⟩ = some (.pointer (some ⟨bh, 0, none⟩)) := fun W' h => h.1.c1
  have k0 : ∀ W', (C2 W' z3 26 (ap b) (.pointer (some ⟨bh, 0, none⟩)) ∧ C3 W' z4 36 (.int .u8 a.1) (.int .i64 a.2.1) (.string a.2.2) ∧ C3 W' z5 36 (.int .u8 c.1) (.int .i64 c.2.1) (.string c.2.2)) → W'.cell? ⟨z4, 0, none⟩ = some (.int .u8 a.1) := fun W' h => h.2.1.c0
  have k1 : ∀ W', (C2 W' z3 26 (ap b) (.pointer (some ⟨bh, 0, none⟩)) ∧ C3 W' z4 36 (.int .u8 a.1) (.int .i64 a.2.1) (.string a.2.2) ∧ C3 W' z5 36 (.int .u8 c.1) (.int .i64 c.2.1) (.string c.2.2)) → W'.cell? ⟨z4, 1, none⟩ = some (.int .i64 a.2.1) := fun W' h => h.2.1.c1
  have k2 : ∀ W', (C2 W' z3 26 (ap b) (.pointer (some ⟨bh, 0, none⟩)) ∧ C3 W' z4 36 (.int .u8 a.1) (.int .i64 a.2.1) (.string a.2.2) ∧ C3 W' z5 36 (.int .u8 c.1) (.int .i64 c.2.1) (.string c.2.2)) → W'.cell? ⟨z4, 2, none⟩ = some (.string a.2.2) := fun W' h => h.2.1.c2
  have j0 : ∀ W', (C2 W' z3 26 (ap b) (.pointer (some ⟨bh, 0, none⟩)) ∧ C3 W' z4 36 (.int .u8 a.1) (.int .i64 a.2.1) (.string a.2.2) ∧ C3 W' z5 36 (.int .u8 c.1) (.int .i64 c.2.1) (.string c.2.2)) → W'.cell? ⟨z5, 0, none⟩ = some (.int .u8 c.1) := fun W' h => h.2.2.c0
  have j1 : ∀ W', (C2 W' z3 26 (ap b) (.pointer (some ⟨bh, 0, none⟩)) ∧ C3 W' z4 36 (.int .u8 a.1) (.int .i64 a.2.1) (.string a.2.2) ∧ C3 W' z5 36 (.int .u8 c.1) (.int .i64 c.2.1) (.string c.2.2)) → W'.cell? ⟨z5, 1, none⟩ = some (.int .i64 c.2.1) := fun W' h => h.2.2.c1
  have j2 : ∀ W', (C2 W' z3 26 (ap b) (.pointer (some ⟨bh, 0, none⟩)) ∧ C3 W' z4 36 (.int .u8 a.1) (.int .i64 a.2.1) (.string a.2.2) ∧ C3 W' z5 36 (.int .u8 c.1) (.int .i64 c.2.1) (.string c.2.2)) → W'.cell? ⟨z5, 2, none⟩ = some (.string c.2.2) := fun W' h => h.2.2.c2
  refine wp_region_noPanic ?_
  have hd : Below W1.heap.size W1 W1.drew := (Below.refl _ W1).drew
  have sp := And.intro (st.1.below hd) (And.intro (st.2.1.below hd) (st.2.2.below hd))
  have h1 := HH.out.below hd
  have kp := (Kp.of_below hb0 (fun q => q = bh)).trans (Kp.of_below hd (fun _ => False)) (fun _ h => h.elim)
  refine wp_region_held_drew (S := fun W' => (C2 W' z3 26 (ap b) (.pointer (some ⟨bh, 0, none⟩)) ∧ C3 W' z4 36 (.int .u8 a.1) (.int .i64 a.2.1) (.string a.2.2) ∧ C3 W' z5 36 (.int .u8 c.1) (.int .i64 c.2.1) (.string c.2.2))) (by kernel_rfl) sp (fun hH => ?_)
  clear hd st hb0 HH
  generalize W1.drew = Wc at sp h1 kp hH ⊢
  refine tkH ?_ 0 hH ?_ ?_; rotate_left
  · intro W' hS; go_simp; with_reducible rfl
  simp only [tkr]
  refine tkH ?_ 1 hH ?_ ?_; rotate_left
  · intro W' hS; go_simp; with_reducible rfl
  simp only [tkr]
  refine tkH ?_ 2 hH ?_ ?_; rotate_left
  · intro W' hS; go_simp; with_reducible rfl
  simp only [tkr]
  refine tkH ?_ 3 hH ?_ ?_; rotate_left
  · intro W' hS; go_simp; with_reducible rfl
  simp only [tkr]
  refine tkH ?_ 4 hH ?_ ?_; rotate_left
  · intro W' hS; go_simp; with_reducible rfl
  simp only [tkr]
  refine tkH ?_ 6 hH ?_ ?_; rotate_left
  · intro W' hS; go_simp; with_reducible rfl
  simp only [tkr]
  refine tkH ?_ 7 hH ?_ ?_; rotate_left
  · intro W' hS; go_simp; with_reducible rfl
  simp only [tkr]
  refine tkH ?_ 8 hH ?_ ?_; rotate_left
  · intro W' hS; go_simp; with_reducible rfl
  simp only [tkr]
  refine rdH 5 rfl (fun K hK => ?_)
  go_simp
  refine (hof bh seed a.1 a.2.1 a.2.2 Wc h1 HO.out.1.1 HO.out.1.2.1 HO.out.1.2.2).mono ?_
  rintro x Wd ⟨rfl, h2, hg⟩
  have kg := Kp.of_grown hg (F := fun q => q = bh) (fun q e => .inl (Option.some.inj e).symm)
  have sp2 := And.intro (sp.1.kp kg HZ.out.1.symm) (And.intro (sp.2.1.kp kg HZ.out.2.1.symm) (sp.2.2.kp kg HZ.out.2.2.symm))
  have kp2 := kp.trans kg (fun q e => .inl e)
  clear hg kg kp sp h1
  simp only
  refine hK.out _ _ ?_ (fun hH => ?_)
  · exact sp2
  clear hK K
  refine rdH 9 rfl (fun K hK => ?_)
  go_simp
  refine (hof bh seed c.1 c.2.1 c.2.2 Wd h2 HO.out.2.1.1 HO.out.2.1.2.1 HO.out.2.1.2.2).mono ?_
  rintro x We ⟨rfl, h3, hg⟩
  have kg := Kp.of_grown hg (F := fun q => q = bh) (fun q e => .inl (Option.some.inj e).symm)
  have sp3 := And.intro (sp2.1.kp kg HZ.out.1.symm) (And.intro (sp2.2.1.kp kg HZ.out.2.1.symm) (sp2.2.2.kp kg HZ.out.2.2.symm))
  have kp3 := kp2.trans kg (fun q e => .inl e)
  clear hg kg kp2 sp2 h2
  simp only
  refine hK.out _ _ ?_ (fun hH => ?_)
  · exact sp3
  clear hK K
  refine rdH 10 rfl (fun K hK => ?_)
  go_simp
  refine (vorder (hashN seed a.1 a.2.1 a.2.2) (hashN seed c.1 c.2.1 c.2.2) a c We).mono ?_
  rintro x Wf ⟨rfl, hb9⟩
  have sp4 := And.intro (sp3.1.below hb9) (And.intro (sp3.2.1.below hb9) (sp3.2.2.below hb9))
  have FIN := Lib.hid (And.intro (kp3.trans (Kp.of_below hb9 (fun _ => False)) (fun _ h => h.elim)) (h3.below hb9))
  clear hb9 sp3 kp3 h3
  simp only
  refine hK.out _ _ ?_ (fun hH => ?_)
  · exact sp4
  clear hK K sp4
  refine tkH ?_ 11 hH ?_ ?_; rotate_left
  · intro W' hS; go_simp; with_reducible rfl
  simp only [tkr]
  refine wpAnyH_done (by kernel_rfl) ?_ _
  refine NoPanic.normal ?_
  clear l1 k0 k1 k2 j0 j1 j2 hH
  go_wp2_with fail
  go_ret
  exact ⟨ret_int (by rw [HO.out.2.2.1, HO.out.2.2.2]), FIN.out.1, FIN.out.2⟩
end
section
theorem visPage (n : Int) (w : World) : Calls Tryz.prog 95 #[.int .i64 n] w fun e w' => e = .returned (.bool (decide (0 ≤ n ∧ n ≤ 64))) ∧ w = w' := by
  by_cases h1 : 0 ≤ n
  · by_cases h2 : n ≤ 64
    · go_enter Tryz.func95, Tryz.ntmps95
      go_wp2_with fail
      go_ret
      exact ⟨ret_bool (by simp [h1, h2]), rfl⟩
    · go_enter Tryz.func95, Tryz.ntmps95
      go_wp2_with fail
      go_ret
      exact ⟨ret_bool (by simp [h1, h2]), rfl⟩
  · go_enter Tryz.func95, Tryz.ntmps95
    go_wp2_with fail
    go_ret
    exact ⟨ret_bool (by simp; omega), rfl⟩
theorem wants_page (zs s n0 : Nat) (l : List Pr) (hl : l.length ≤ 1024) (hz : zs < n0) (hs : s ≤ 9223372036854775807) :
    Wants n0 97 #[.pointer (some ⟨zs, 0, none⟩)] l (fun i _ => decide (s ≤ i)) (fun q => q = zs) (fun i W => C1 W zs 3 (.int .i64 ((s : Int) - (i : Int)))) := by
  refine ⟨fun args W => by kernel_rfl, fun i p W hp hC => ?_, fun i A B G hC hk hG => hC.kp hk (fun hg => by have := hG _ hg; omega), fun i A q o hC hq ho => ?_, fun q hq => by omega⟩
  · have hi : i < l.length := (List.getElem?_eq_some_iff.1 hp).1
    have y0 : (W.alloc (.cells #[.int .u8 p.1.1, .int .i64 p.1.2.1, .string p.1.2.2, .int .u8 p.2.1, .int .i64 p.2.2.1, .string p.2.2.2] 48)).cell? ⟨zs, 0, none⟩ = some (.int .i64 ((s : Int) - (i : Int))) := (hC.alloc _).c0
    have y1 := (hC.alloc (.cells #[.int .u8 p.1.1, .int .i64 p.1.2.1, .string p.1.2.2, .int .u8 p.2.1, .int .i64 p.2.2.1, .string p.2.2.2] 48)).fz
    have x0 := hC.c0
    have x1 := hC.fz
    have hzl := hC.lt
    have hw1 : IntKind.i64.wrap ((s : Int) - (i : Int) - 1) = (s : Int) - (i : Int) - 1 := IntWalk.i64_in _ (by omega)
    have HC := Lib.hid ((hC.set (.int .i64 ((s : Int) - (i : Int) - 1))).alloc (.cells #[.int .u8 p.1.1, .int .i64 p.1.2.1, .string p.1.2.2, .int .u8 p.2.1, .int .i64 p.2.2.1, .string p.2.2.2] 48))
    have HK := Lib.hid (show Kp (fun q => q = zs) W ((W.setCell ⟨zs, 0, none⟩ (.int .i64 ((s : Int) - (i : Int) - 1))).alloc (.cells #[.int .u8 p.1.1, .int .i64 p.1.2.1, .string p.1.2.2, .int .u8 p.2.1, .int .i64 p.2.2.1, .string p.2.2.2] 48)) from ((Kp.refl (fun q => q = zs) W).setCell (.inl rfl) _).alloc _)
    clear hp
    show Calls Tryz.prog 97 #[pagg p, .pointer (some ⟨zs, 0, none⟩)] W _
    by_cases h : s ≤ i
    · have h1 : (s : Int) - (i : Int) - 1 < 0 := by omega
      have h2 : (s : Int) - (i : Int) < 1 := by omega
      clear hC
      go_enter Tryz.func97, Tryz.ntmps97
      go_wp2_with fail
      go_ret
      exact ⟨ret_bool (by simp [h] <;> omega), by first | (rw [show (s : Int) - ((i + 1 : Nat) : Int) = (s : Int) - (i : Int) - 1 by omega]; exact HC.out) | (rw [show (s : Int) - ((i : Int) + 1) = (s : Int) - (i : Int) - 1 by omega]; exact HC.out), HK.out⟩
    · have h1 : ¬ (s : Int) - (i : Int) - 1 < 0 := by omega
      have h2 : ¬ (s : Int) - (i : Int) < 1 := by omega
      clear hC
      go_enter Tryz.func97, Tryz.ntmps97
      go_wp2_with fail
      go_ret
      exact ⟨ret_bool (by simp [h] <;> omega), by first | (rw [show (s : Int) - ((i + 1 : Nat) : Int) = (s : Int) - (i : Int) - 1 by omega]; exact HC.out) | (rw [show (s : Int) - ((i : Int) + 1) = (s : Int) - (i : Int) - 1 by omega]; exact HC.out), HK.out⟩
  · subst hq
    have h1 : A.heap[q]? = some _ := hC
    rw [ho] at h1
    rw [Option.some.inj h1]
    rfl
theorem wants_all (n0 : Nat) (l : List Pr) : Wants n0 104 #[] l (fun _ _ => true) (fun _ => False) (fun _ _ => True) := by
  refine ⟨fun args W => by kernel_rfl, fun i p W hp hC => ?_, fun _ _ _ _ _ _ _ => trivial, fun _ _ _ _ _ hq _ => hq.elim, fun q hq => hq.elim⟩
  show Calls Tryz.prog 104 #[pagg p] W _
  have HK := Lib.hid (show Kp (fun _ => False) W (W.alloc (.cells #[.int .u8 p.1.1, .int .i64 p.1.2.1, .string p.1.2.2, .int .u8 p.2.1, .int .i64 p.2.2.1, .string p.2.2.2] 48)) from (Kp.refl _ W).alloc _)
  go_enter Tryz.func104, Tryz.ntmps104
  go_wp2_with fail
  go_ret
  exact ⟨rfl, trivial, HK.out⟩
end
section
variable {b bh N root mostA : Nat} {M : Cells} {F : Nat → Prop} {hs : Ky → Nat} {l : List Pr}
set_option maxHeartbeats 4000000 in
theorem vPage_no (b bh N root : Nat) (from' n : Int) (w : World) (hn : ¬ (0 ≤ n ∧ n ≤ 64)) : Calls Tryz.prog 25 #[land b bh, .agg #[.int .i64 (N : Nat), .int .i64 (root : Nat)], .int .i64 from', .int .i64 n] w fun e w' => e = .returned (.tuple #[.slice none 0 0, .int .i64 1]) ∧ Below w.heap.size w w' := by
  have hb0 : Below w.heap.size w ((w.alloc (.cells #[ap b, .pointer (some ⟨bh, 0, none⟩)] 26)).alloc (.cells #[.int .i64 (N : Int), .int .i64 (root : Int)] 30)) := ((Below.refl _ w).alloc (Nat.le_refl _) _).alloc (by simp) _
  have hd : decide (0 ≤ n ∧ n ≤ 64) = false := by simpa using hn
  have HB := Lib.hid hb0
  have HD := Lib.hid hd
  clear hb0 hd hn
  go_enter Tryz.func25, Tryz.ntmps25
  go_wp2_with fail
  refine (visPage n _).mono ?_
  rintro e w1 ⟨rfl, rfl⟩
  rw [HD.out]
  go_wp2_with fail
  go_ret2
  exact ⟨rfl, HB.out⟩
set_option maxHeartbeats 4000000 in
theorem vPage_yes (from' : Int) (n : Nat) (w : World) (ha : Ar w b mostA M F) (hz : M 0 = none) (hT : Mp M hs root l) (hl : l.length ≤ 1024) (hn : n ≤ 64) (hf : -9223372036854775808 ≤ from' ∧ from' ≤ 9223372036854775807) :
    Calls Tryz.prog 25 #[land b bh, .agg #[.int .i64 (N : Nat), .int .i64 (root : Nat)], .int .i64 from', .int .i64 (n : Nat)] w fun e w' => ∃ v, e = .returned (.tuple #[v, .int .i64 0]) ∧ w'.ownsRow w.heap.size 48 6 v ((l.drop from'.toNat).take n).length (((l.drop from'.toNat).take n).flatMap pcells) ∧ Below w.heap.size w w' := by
  obtain ⟨s, hs0⟩ : ∃ s : Nat, s = from'.toNat := ⟨_, rfl⟩
  rw [← hs0]
  have hmax : max from' 0 = (s : Int) := by omega
  have hb0 : Below w.heap.size w ((w.alloc (.cells #[ap b, .pointer (some ⟨bh, 0, none⟩)] 26)).alloc (.cells #[.int .i64 (N : Int), .int .i64 (root : Int)] 30)) := ((Below.refl _ w).alloc (Nat.le_refl _) _).alloc (by simp) _
  have q4 := (C2.new w 26 (ap b) (.pointer (some ⟨bh, 0, none⟩))).alloc (.cells #[.int .i64 (N : Int), .int .i64 (root : Int)] 30)
  have q5 : C2 ((w.alloc (.cells #[ap b, .pointer (some ⟨bh, 0, none⟩)] 26)).alloc (.cells #[.int .i64 (N : Int), .int .i64 (root : Int)] 30)) (w.heap.size + 1) 30 (.int .i64 (N : Int)) (.int .i64 (root : Int)) := by
    have h := C2.new (w.alloc (.cells #[ap b, .pointer (some ⟨bh, 0, none⟩)] 26)) 30 (.int .i64 (N : Int)) (.int .i64 (root : Int))
    simpa using h
  have hd : decide (0 ≤ (n : Int) ∧ (n : Int) ≤ 64) = true := by rw [decide_eq_true_eq]; omega
  have hs9 : s ≤ 9223372036854775807 := by omega
  have HH := Lib.hid (And.intro ha (And.intro hz (And.intro hT (And.intro hl (And.intro hn hs9)))))
  have HD := Lib.hid hd
  have HM := Lib.hid hmax
  clear ha hz hT hl hn hf hs0 hd hmax
  go_enter Tryz.func25, Tryz.ntmps25
  go_wp2_with fail
  refine (visPage n _).mono ?_
  rintro e w1 ⟨rfl, rfl⟩
  rw [HD.out]
  go_upto_region 4 with fail
  rw [HM.out]
  have b10 := hb0.alloc hb0.size (.cells #[.int .i64 (s : Int)] 3)
  have q10 := C1.new ((w.alloc (.cells #[ap b, .pointer (some ⟨bh, 0, none⟩)] 26)).alloc (.cells #[.int .i64 (N : Int), .int .i64 (root : Int)] 30)) 3 (.int .i64 (s : Int))
  have q4 := q4.alloc (.cells #[.int .i64 (s : Int)] 3)
  have q5 := q5.alloc (.cells #[.int .i64 (s : Int)] 3)
  have hzs : ((w.alloc (.cells #[ap b, .pointer (some ⟨bh, 0, none⟩)] 26)).alloc (.cells #[.int .i64 (N : Int), .int .i64 (root : Int)] 30)).heap.size = w.heap.size + 1 + 1 := by simp
  rw [hzs] at q10
  clear hb0 hzs
  generalize ((w.alloc (.cells #[ap b, .pointer (some ⟨bh, 0, none⟩)] 26)).alloc (.cells #[.int .i64 (N : Int), .int .i64 (root : Int)] 30)).alloc (.cells #[.int .i64 (s : Int)] 3) = W1 at b10 q10 q4 q5 ⊢
  obtain ⟨zs, hzs⟩ : ∃ z, z = w.heap.size + 1 + 1 := ⟨_, rfl⟩
  rw [← hzs] at q10 ⊢
  have HZ := Lib.hid (show w.heap.size ≤ zs ∧ ∀ q, F q → q < w.heap.size from ⟨by omega, fun q hq => HH.out.1.lt hq⟩)
  obtain ⟨x0, x1, _⟩ := q4.all
  obtain ⟨x2, x3, _⟩ := q5.all
  have HB := Lib.hid b10
  have hzl := q10.lt
  have q11 : C1 W1 zs 3 (.int .i64 ((s : Int) - ((0 : Nat) : Int))) := by simpa using q10
  have Q := Lib.hid q11
  clear hzs q4 q5 q10 b10 q11
  go_wp2_with fail
  refine (vgather (N := N) (hs := hs) (l := l) (most := n) (mostA := mostA) (M := M) (F := F) W1 (HH.out.1.below HB.out) HH.out.2.1 HH.out.2.2.1 HH.out.2.2.2.1 (by have := HH.out.2.2.2.2.1; omega) (wants_page zs s W1.heap.size l HH.out.2.2.2.1 hzl HH.out.2.2.2.2.2) (fun q hq hf => by have h1 := HZ.out.2 q hf; have h2 := HZ.out.1; omega) Q.out).mono ?_
  rintro e w2 ⟨v, rfl, hown, _, hk⟩
  have hga := gaF_drop (s := s) (most := n) l 0 [] (Nat.zero_le _)
  simp only [List.nil_append, List.length_nil, Nat.sub_zero] at hga
  rw [hga] at hown
  have FIN := Lib.hid (show w2.ownsRow w.heap.size 48 6 v ((l.drop s).take n).length (((l.drop s).take n).flatMap pcells) ∧ Below w.heap.size w w2 from ⟨own_base hown HB.out.size, below_kp HB.out hk (fun q e => by have := HZ.out.1; omega)⟩)
  clear hown hk hga x0 x1 x2 x3 hzl
  go_wp2_with fail
  go_ret2
  exact ⟨v, rfl, FIN.out.1, FIN.out.2⟩
end
end Go.Proofs.YtfiledbjbpkleaaGreat

namespace Go.Proofs.YtfiledbjbpkleaaGreat
set_option maxRecDepth 100000
set_option linter.unusedSimpArgs false
set_option linter.unusedVariables false
open Go.RowKit
theorem gaF_all (l : List Pr) (h : l.length ≤ 1024) : gaF 1024 (fun _ _ => true) 0 l [] = l := by
  have h1 := gaF_filter (f := fun _ => true) (most := 1024) l 0 [] (Nat.zero_le _)
  rw [h1, List.filter_eq_self.2 (fun _ _ => rfl)]
  simp [List.take_of_length_le h]
section
variable {b bh N root mostA seed : Nat} {M : Cells} {F : Nat → Prop} {hs : Ky → Nat} {l : List Pr}
set_option maxHeartbeats 4000000 in
theorem vAll_no (b bh N root : Nat) (n : Int) (w : World) (hn : ¬ (1 ≤ n ∧ n ≤ 64)) : Calls Tryz.prog 31 #[land b bh, .agg #[.int .i64 (N : Nat), .int .i64 (root : Nat)], .int .i64 n] w fun e w' => e = .returned (.tuple #[.slice none 0 0, .int .i64 1]) ∧ Below w.heap.size w w' := by
  have HB := Lib.hid (show Below w.heap.size w ((w.alloc (.cells #[ap b, .pointer (some ⟨bh, 0, none⟩)] 26)).alloc (.cells #[.int .i64 (N : Int), .int .i64 (root : Int)] 30)) from ((Below.refl _ w).alloc (Nat.le_refl _) _).alloc (by simp) _)
  by_cases h1 : n < 1
  · clear hn
    go_enter Tryz.func31, Tryz.ntmps31
    go_wp2_with fail
    go_ret2
    exact ⟨rfl, HB.out⟩
  · have hd : decide (0 ≤ n ∧ n ≤ 64) = false := by
      rw [decide_eq_false_iff_not]
      omega
    have HD := Lib.hid hd
    clear hn hd
    go_enter Tryz.func31, Tryz.ntmps31
    go_wp2_with fail
    refine (visPage n _).mono ?_
    rintro e w1 ⟨rfl, rfl⟩
    rw [HD.out]
    go_wp2_with fail
    go_ret2
    exact ⟨rfl, HB.out⟩
set_option maxHeartbeats 4000000 in
theorem vAll_yes (n : Int) (w : World) (ha : Ar w b mostA M F) (hz : M 0 = none) (hT : Mp M hs root l) (hl : l.length ≤ 1024) (hn : 1 ≤ n ∧ n ≤ 64) :
    Calls Tryz.prog 31 #[land b bh, .agg #[.int .i64 (N : Nat), .int .i64 (root : Nat)], .int .i64 n] w fun e w' => ∃ v, e = .returned (.tuple #[v, .int .i64 0]) ∧ w'.ownsRow w.heap.size 48 6 v l.length (l.flatMap pcells) ∧ Below w.heap.size w w' := by
  have hb0 : Below w.heap.size w ((w.alloc (.cells #[ap b, .pointer (some ⟨bh, 0, none⟩)] 26)).alloc (.cells #[.int .i64 (N : Int), .int .i64 (root : Int)] 30)) := ((Below.refl _ w).alloc (Nat.le_refl _) _).alloc (by simp) _
  have q4 := (C2.new w 26 (ap b) (.pointer (some ⟨bh, 0, none⟩))).alloc (.cells #[.int .i64 (N : Int), .int .i64 (root : Int)] 30)
  have q5 : C2 ((w.alloc (.cells #[ap b, .pointer (some ⟨bh, 0, none⟩)] 26)).alloc (.cells #[.int .i64 (N : Int), .int .i64 (root : Int)] 30)) (w.heap.size + 1) 30 (.int .i64 (N : Int)) (.int .i64 (root : Int)) := by
    have h := C2.new (w.alloc (.cells #[ap b, .pointer (some ⟨bh, 0, none⟩)] 26)) 30 (.int .i64 (N : Int)) (.int .i64 (root : Int))
    simpa using h
  have hd : decide (0 ≤ n ∧ n ≤ 64) = true := by rw [decide_eq_true_eq]; omega
  have h1 : ¬ n < 1 := by omega
  have HH := Lib.hid (And.intro ha (And.intro hz (And.intro hT hl)))
  have HD := Lib.hid hd
  clear ha hz hT hl hn hd
  go_enter Tryz.func31, Tryz.ntmps31
  go_wp2_with fail
  refine (visPage n _).mono ?_
  rintro e w1 ⟨rfl, rfl⟩
  rw [HD.out]
  go_upto_region 3 with fail
  generalize ((w.alloc (.cells #[ap b, .pointer (some ⟨bh, 0, none⟩)] 26)).alloc (.cells #[.int .i64 (N : Int), .int .i64 (root : Int)] 30)) = W1 at hb0 q4 q5 ⊢
  obtain ⟨x0, x1, _⟩ := q4.all
  obtain ⟨x2, x3, _⟩ := q5.all
  have HB := Lib.hid hb0
  clear hb0 q4 q5 h1
  go_wp2_with fail
  refine (vgather (N := N) (hs := hs) (l := l) (most := 1024) (mostA := mostA) (M := M) (F := F) W1 (HH.out.1.below HB.out) HH.out.2.1 HH.out.2.2.1 HH.out.2.2.2 (by decide) (wants_all W1.heap.size l) (fun q hq hf => hq.elim) trivial).mono ?_
  rintro e w2 ⟨v, rfl, hown, _, hk⟩
  rw [gaF_all l HH.out.2.2.2] at hown
  have FIN := Lib.hid (show w2.ownsRow w.heap.size 48 6 v l.length (l.flatMap pcells) ∧ Below w.heap.size w w2 from ⟨own_base hown HB.out.size, below_kp HB.out hk (fun q e => e.elim)⟩)
  clear hown hk x0 x1 x2 x3
  go_wp2_with fail
  go_ret2
  exact ⟨v, rfl, FIN.out.1, FIN.out.2⟩
def CA (b bh seed z6 z10 z4 : Nat) (k : Ky) (W : World) : Prop := C3 W z6 36 (.int .u8 k.1) (.int .i64 k.2.1) (.string k.2.2) ∧ C1 W z10 28 (.int .u64 (hashN seed k.1 k.2.1 k.2.2 : Nat)) ∧ C2 W z4 26 (ap b) (.pointer (some ⟨bh, 0, none⟩)) ∧ Hs W bh seed
set_option maxHeartbeats 4000000 in
theorem wants_after (n0 z6 z10 z4 : Nat) (k : Ky) (l : List Pr) (hlk : ∀ q ∈ l, OkK q.1) (hz : z6 < n0 ∧ z10 < n0 ∧ z4 < n0 ∧ bh < n0 ∧ bh ≠ z6 ∧ bh ≠ z10 ∧ bh ≠ z4) :
    Wants n0 99 #[.pointer (some ⟨z6, 0, none⟩), .pointer (some ⟨z10, 0, none⟩), .pointer (some ⟨z4, 0, none⟩)] l (fun _ p => decide (ordN (hashN seed k.1 k.2.1 k.2.2) (hashN seed p.1.1 p.1.2.1 p.1.2.2) k p.1 < 0)) (fun q => q = bh) (fun _ W => CA b bh seed z6 z10 z4 k W) := by
  refine ⟨fun args W => by kernel_rfl, fun i p W hp hC => ?_, fun i A B G hC hk hG => ⟨hC.1.kp hk (fun hg => by have := hG _ hg; omega), hC.2.1.kp hk (fun hg => by have := hG _ hg; omega), hC.2.2.1.kp hk (fun hg => by have := hG _ hg; omega), hC.2.2.2.kp hk (fun hg => by have := hG _ hg; omega)⟩, fun i A q o hC hq ho => ?_, fun q hq => by omega⟩
  · have HP := Lib.hid (hlk p (List.mem_of_getElem? hp))
    have HZ := Lib.hid hz
    have hzl : z6 < W.heap.size ∧ z10 < W.heap.size ∧ z4 < W.heap.size ∧ bh < W.heap.size := ⟨hC.1.lt, hC.2.1.lt, hC.2.2.1.lt, hC.2.2.2.lt⟩
    have hb0 : Below W.heap.size W (W.alloc (.cells #[.int .u8 p.1.1, .int .i64 p.1.2.1, .string p.1.2.2, .int .u8 p.2.1, .int .i64 p.2.2.1, .string p.2.2.2] 48)) := (Below.refl _ W).alloc (Nat.le_refl _) _
    have q4 := C6.new W 48 (.int .u8 p.1.1) (.int .i64 p.1.2.1) (.string p.1.2.2) (.int .u8 p.2.1) (.int .i64 p.2.2.1) (.string p.2.2.2)
    have hC1 : CA b bh seed z6 z10 z4 k (W.alloc (.cells #[.int .u8 p.1.1, .int .i64 p.1.2.1, .string p.1.2.2, .int .u8 p.2.1, .int .i64 p.2.2.1, .string p.2.2.2] 48)) := ⟨hC.1.below hb0, hC.2.1.below hb0, hC.2.2.1.below hb0, hC.2.2.2.below hb0⟩
    clear hC hp hz
    show Calls Tryz.prog 99 #[pagg p, .pointer (some ⟨z6, 0, none⟩), .pointer (some ⟨z10, 0, none⟩), .pointer (some ⟨z4, 0, none⟩)] W _
    go_enter Tryz.func99, Tryz.ntmps99
    go_upto_region 1 with fail
    generalize W.alloc (.cells #[.int .u8 p.1.1, .int .i64 p.1.2.1, .string p.1.2.2, .int .u8 p.2.1, .int .i64 p.2.2.1, .string p.2.2.2] 48) = W1 at hb0 q4 hC1 ⊢
    obtain ⟨zp, hzp⟩ : ∃ z, z = W.heap.size := ⟨_, rfl⟩
    rw [← hzp] at q4 ⊢
    have HZP := Lib.hid (show bh ≠ zp from by omega)
    clear hzp hzl
    have k0 : ∀ W', (CA b bh seed z6 z10 z4 k W' ∧ C6 W' zp 48 (.int .u8 p.1.1) (.int .i64 p.1.2.1) (.string p.1.2.2) (.int .u8 p.2.1) (.int .i64 p.2.2.1) (.string p.2.2.2)) → W'.cell? ⟨z6, 0, none⟩ = some (.int .u8 k.1) := fun W' h => h.1.1.c0
    have k1 : ∀ W', (CA b bh seed z6 z10 z4 k W' ∧ C6 W' zp 48 (.int .u8 p.1.1) (.int .i64 p.1.2.1) (.string p.1.2.2) (.int .u8 p.2.1) (.int .i64 p.2.2.1) (.string p.2.2.2)) → W'.cell? ⟨z6, 1, none⟩ = some (.int .i64 k.2.1) := fun W' h => h.1.1.c1
    have k2 : ∀ W', (CA b bh seed z6 z10 z4 k W' ∧ C6 W' zp 48 (.int .u8 p.1.1) (.int .i64 p.1.2.1) (.string p.1.2.2) (.int .u8 p.2.1) (.int .i64 p.2.2.1) (.string p.2.2.2)) → W'.cell? ⟨z6, 2, none⟩ = some (.string k.2.2) := fun W' h => h.1.1.c2
    have g0 : ∀ W', (CA b bh seed z6 z10 z4 k W' ∧ C6 W' zp 48 (.int .u8 p.1.1) (.int .i64 p.1.2.1) (.string p.1.2.2) (.int .u8 p.2.1) (.int .i64 p.2.2.1) (.string p.2.2.2)) → W'.cell? ⟨z10, 0, none⟩ = some (.int .u64 (hashN seed k.1 k.2.1 k.2.2 : Nat)) := fun W' h => h.1.2.1.c0
    have l1 : ∀ W', (CA b bh seed z6 z10 z4 k W' ∧ C6 W' zp 48 (.int .u8 p.1.1) (.int .i64 p.1.2.1) (.string p.1.2.2) (.int .u8 p.2.1) (.int .i64 p.2.2.1) (.string p.2.2.2)) → W'.cell? ⟨z4, 1, none⟩ = some (.pointer (some ⟨bh, 0, none⟩)) := fun W' h => h.1.2.2.1.c1
    have p0 : ∀ W', (CA b bh seed z6 z10 z4 k W' ∧ C6 W' zp 48 (.int .u8 p.1.1) (.int .i64 p.1.2.1) (.string p.1.2.2) (.int .u8 p.2.1) (.int .i64 p.2.2.1) (.string p.2.2.2)) → W'.cell? ⟨zp, 0, none⟩ = some (.int .u8 p.1.1) := fun W' h => h.2.c0
    have p1 : ∀ W', (CA b bh seed z6 z10 z4 k W' ∧ C6 W' zp 48 (.int .u8 p.1.1) (.int .i64 p.1.2.1) (.string p.1.2.2) (.int .u8 p.2.1) (.int .i64 p.2.2.1) (.string p.2.2.2)) → W'.cell? ⟨zp, 1, none⟩ = some (.int .i64 p.1.2.1) := fun W' h => h.2.c1
    have p2 : ∀ W', (CA b bh seed z6 z10 z4 k W' ∧ C6 W' zp 48 (.int .u8 p.1.1) (.int .i64 p.1.2.1) (.string p.1.2.2) (.int .u8 p.2.1) (.int .i64 p.2.2.1) (.string p.2.2.2)) → W'.cell? ⟨zp, 2, none⟩ = some (.string p.1.2.2) := fun W' h => h.2.c2
    refine wp_region_noPanic ?_
    have hd : Below W1.heap.size W1 W1.drew := (Below.refl _ W1).drew
    have sp : CA b bh seed z6 z10 z4 k W1.drew ∧ C6 W1.drew zp 48 (.int .u8 p.1.1) (.int .i64 p.1.2.1) (.string p.1.2.2) (.int .u8 p.2.1) (.int .i64 p.2.2.1) (.string p.2.2.2) := ⟨⟨hC1.1.below hd, hC1.2.1.below hd, hC1.2.2.1.below hd, hC1.2.2.2.below hd⟩, q4.below hd⟩
    have kp := (Kp.of_below hb0 (fun q => q = bh)).trans (Kp.of_below hd (fun _ => False)) (fun _ h => h.elim)
    refine wp_region_held_drew (S := fun W' => (CA b bh seed z6 z10 z4 k W' ∧ C6 W' zp 48 (.int .u8 p.1.1) (.int .i64 p.1.2.1) (.string p.1.2.2) (.int .u8 p.2.1) (.int .i64 p.2.2.1) (.string p.2.2.2))) (by kernel_rfl) sp (fun hH => ?_)
    clear hd hb0 q4 hC1
    generalize W1.drew = Wc at sp kp hH ⊢
    refine tkH ?_ 0 hH ?_ ?_; rotate_left
    · intro W' hS; go_simp; with_reducible rfl
    simp only [tkr]
    refine tkH ?_ 1 hH ?_ ?_; rotate_left
    · intro W' hS; go_simp; with_reducible rfl
    simp only [tkr]
    refine tkH ?_ 2 hH ?_ ?_; rotate_left
    · intro W' hS; go_simp; with_reducible rfl
    simp only [tkr]
    refine tkH ?_ 3 hH ?_ ?_; rotate_left
    · intro W' hS; go_simp; with_reducible rfl
    simp only [tkr]
    refine tkH ?_ 4 hH ?_ ?_; rotate_left
    · intro W' hS; go_simp; with_reducible rfl
    simp only [tkr]
    refine tkH ?_ 5 hH ?_ ?_; rotate_left
    · intro W' hS; go_simp; with_reducible rfl
    simp only [tkr]
    refine tkH ?_ 6 hH ?_ ?_; rotate_left
    · intro W' hS; go_simp; with_reducible rfl
    simp only [tkr]
    refine tkH ?_ 7 hH ?_ ?_; rotate_left
    · intro W' hS; go_simp; with_reducible rfl
    simp only [tkr]
    refine rdH 8 rfl (fun K hK => ?_)
    go_simp
    refine (hof bh seed p.1.1 p.1.2.1 p.1.2.2 Wc sp.1.2.2.2 HP.out.1 HP.out.2.1 HP.out.2.2).mono ?_
    rintro x Wd ⟨rfl, h2, hg⟩
    have kg := Kp.of_grown hg (F := fun q => q = bh) (fun q e => .inl (Option.some.inj e).symm)
    have sp2 : CA b bh seed z6 z10 z4 k Wd ∧ C6 Wd zp 48 (.int .u8 p.1.1) (.int .i64 p.1.2.1) (.string p.1.2.2) (.int .u8 p.2.1) (.int .i64 p.2.2.1) (.string p.2.2.2) := ⟨⟨sp.1.1.kp kg HZ.out.2.2.2.2.1.symm, sp.1.2.1.kp kg HZ.out.2.2.2.2.2.1.symm, sp.1.2.2.1.kp kg HZ.out.2.2.2.2.2.2.symm, h2⟩, sp.2.kp kg HZP.out.symm⟩
    have kp2 := kp.trans kg (fun q e => .inl e)
    clear hg kg kp sp h2
    simp only
    refine hK.out _ _ ?_ (fun hH => ?_)
    · exact sp2
    clear hK K
    refine rdH 9 rfl (fun K hK => ?_)
    go_simp
    refine (vorder (hashN seed k.1 k.2.1 k.2.2) (hashN seed p.1.1 p.1.2.1 p.1.2.2) k p.1 Wd).mono ?_
    rintro x We ⟨rfl, hb9⟩
    have sp3 : CA b bh seed z6 z10 z4 k We ∧ C6 We zp 48 (.int .u8 p.1.1) (.int .i64 p.1.2.1) (.string p.1.2.2) (.int .u8 p.2.1) (.int .i64 p.2.2.1) (.string p.2.2.2) := ⟨⟨sp2.1.1.below hb9, sp2.1.2.1.below hb9, sp2.1.2.2.1.below hb9, sp2.1.2.2.2.below hb9⟩, sp2.2.below hb9⟩
    have FIN := Lib.hid (And.intro sp3.1 (kp2.trans (Kp.of_below hb9 (fun _ => False)) (fun _ h => h.elim)))
    clear hb9 sp2 kp2
    simp only
    refine hK.out _ _ ?_ (fun hH => ?_)
    · exact sp3
    clear hK K sp3
    refine tkH ?_ 10 hH ?_ ?_; rotate_left
    · intro W' hS; go_simp; with_reducible rfl
    simp only [tkr]
    refine tkH ?_ 11 hH ?_ ?_; rotate_left
    · intro W' hS; go_simp; with_reducible rfl
    simp only [tkr]
    refine wpAnyH_done (by kernel_rfl) ?_ _
    refine NoPanic.normal ?_
    clear k0 k1 k2 g0 l1 p0 p1 p2 hH
    go_wp2_with fail
    go_ret
    exact ⟨rfl, FIN.out.1, FIN.out.2⟩
  · subst hq
    obtain ⟨x1, x2, x3, h0, _⟩ := hC.2.2.2
    have h1 : A.heap[q]? = some _ := h0
    rw [ho] at h1
    rw [Option.some.inj h1]
    rfl
set_option maxHeartbeats 4000000 in
theorem vAfter_no (b bh N root : Nat) (k : Ky) (n : Int) (w : World) (hn : ¬ (0 ≤ n ∧ n ≤ 64)) : Calls Tryz.prog 28 #[land b bh, .agg #[.int .i64 (N : Nat), .int .i64 (root : Nat)], xagg k, .int .i64 n] w fun e w' => e = .returned (.tuple #[.slice none 0 0, .int .i64 1]) ∧ Below w.heap.size w w' := by
  have HB := Lib.hid (show Below w.heap.size w (((w.alloc (.cells #[ap b, .pointer (some ⟨bh, 0, none⟩)] 26)).alloc (.cells #[.int .i64 (N : Int), .int .i64 (root : Int)] 30)).alloc (.cells #[.int .u8 k.1, .int .i64 k.2.1, .string k.2.2] 36)) from (((Below.refl _ w).alloc (Nat.le_refl _) _).alloc (by simp) _).alloc (by simp; omega) _)
  have hd : decide (0 ≤ n ∧ n ≤ 64) = false := by simpa using hn
  have HD := Lib.hid hd
  clear hn hd
  go_enter Tryz.func28, Tryz.ntmps28
  go_wp2_with fail
  refine (visPage n _).mono ?_
  rintro e w1 ⟨rfl, rfl⟩
  rw [HD.out]
  go_wp2_with fail
  go_ret2
  exact ⟨rfl, HB.out⟩
set_option maxHeartbeats 4000000 in
theorem vAfter_yes (k : Ky) (n : Nat) (w : World) (ha : Ar w b mostA M F) (hz : M 0 = none) (hT : Mp M hs root l) (hl : l.length ≤ 1024) (hn : n ≤ 64) (hh : Hs w bh seed) (nbh : ¬ F bh) (hk : OkK k) (hlk : ∀ q ∈ l, OkK q.1) :
    Calls Tryz.prog 28 #[land b bh, .agg #[.int .i64 (N : Nat), .int .i64 (root : Nat)], xagg k, .int .i64 (n : Nat)] w fun e w' => ∃ v, e = .returned (.tuple #[v, .int .i64 0]) ∧ w'.ownsRow w.heap.size 48 6 v ((l.filter (fun p => decide (ordN (hashN seed k.1 k.2.1 k.2.2) (hashN seed p.1.1 p.1.2.1 p.1.2.2) k p.1 < 0))).take n).length (((l.filter (fun p => decide (ordN (hashN seed k.1 k.2.1 k.2.2) (hashN seed p.1.1 p.1.2.1 p.1.2.2) k p.1 < 0))).take n).flatMap pcells) ∧ Kp (fun q => q = bh) w w' ∧ Hs w' bh seed := by
  have hb0 : Below w.heap.size w (((w.alloc (.cells #[ap b, .pointer (some ⟨bh, 0, none⟩)] 26)).alloc (.cells #[.int .i64 (N : Int), .int .i64 (root : Int)] 30)).alloc (.cells #[.int .u8 k.1, .int .i64 k.2.1, .string k.2.2] 36)) := (((Below.refl _ w).alloc (Nat.le_refl _) _).alloc (by simp) _).alloc (by simp; omega) _
  have q4 := ((C2.new w 26 (ap b) (.pointer (some ⟨bh, 0, none⟩))).alloc (.cells #[.int .i64 (N : Int), .int .i64 (root : Int)] 30)).alloc (.cells #[.int .u8 k.1, .int .i64 k.2.1, .string k.2.2] 36)
  have q5 : C2 (((w.alloc (.cells #[ap b, .pointer (some ⟨bh, 0, none⟩)] 26)).alloc (.cells #[.int .i64 (N : Int), .int .i64 (root : Int)] 30)).alloc (.cells #[.int .u8 k.1, .int .i64 k.2.1, .string k.2.2] 36)) (w.heap.size + 1) 30 (.int .i64 (N : Int)) (.int .i64 (root : Int)) := by
    have h := (C2.new (w.alloc (.cells #[ap b, .pointer (some ⟨bh, 0, none⟩)] 26)) 30 (.int .i64 (N : Int)) (.int .i64 (root : Int))).alloc (.cells #[.int .u8 k.1, .int .i64 k.2.1, .string k.2.2] 36)
    simpa using h
  have q6 : C3 (((w.alloc (.cells #[ap b, .pointer (some ⟨bh, 0, none⟩)] 26)).alloc (.cells #[.int .i64 (N : Int), .int .i64 (root : Int)] 30)).alloc (.cells #[.int .u8 k.1, .int .i64 k.2.1, .string k.2.2] 36)) (w.heap.size + 1 + 1) 36 (.int .u8 k.1) (.int .i64 k.2.1) (.string k.2.2) := by
    have h := C3.new ((w.alloc (.cells #[ap b, .pointer (some ⟨bh, 0, none⟩)] 26)).alloc (.cells #[.int .i64 (N : Int), .int .i64 (root : Int)] 30)) 36 (.int .u8 k.1) (.int .i64 k.2.1) (.string k.2.2)
    simpa using h
  have hd : decide (0 ≤ (n : Int) ∧ (n : Int) ≤ 64) = true := by rw [decide_eq_true_eq]; omega
  have HH := Lib.hid (And.intro ha (And.intro hz (And.intro hT (And.intro hl (And.intro hn (And.intro hh (And.intro nbh (And.intro hk hlk))))))))
  have HD := Lib.hid hd
  clear ha hz hT hl hn hh nbh hk hlk hd
  go_enter Tryz.func28, Tryz.ntmps28
  go_wp2_with fail
  refine (visPage n _).mono ?_
  rintro e w1 ⟨rfl, rfl⟩
  rw [HD.out]
  go_upto_region 3 with fail
  generalize (((w.alloc (.cells #[ap b, .pointer (some ⟨bh, 0, none⟩)] 26)).alloc (.cells #[.int .i64 (N : Int), .int .i64 (root : Int)] 30)).alloc (.cells #[.int .u8 k.1, .int .i64 k.2.1, .string k.2.2] 36)) = W1 at hb0 q4 q5 q6 ⊢
  obtain ⟨z6, hz6⟩ : ∃ z, z = w.heap.size + 1 + 1 := ⟨_, rfl⟩
  obtain ⟨z5, hz5⟩ : ∃ z, z = w.heap.size + 1 := ⟨_, rfl⟩
  obtain ⟨z4, hz4⟩ : ∃ z, z = w.heap.size := ⟨_, rfl⟩
  rw [← hz6] at q6
  rw [← hz5] at q5
  rw [← hz4] at q4
  rw [← hz6, ← hz5, ← hz4]
  have hbl := HH.out.2.2.2.2.2.1.lt
  have HZ := Lib.hid (show bh < z6 ∧ bh < z5 ∧ bh < z4 ∧ bh < w.heap.size from ⟨by omega, by omega, by omega, hbl⟩)
  clear hz6 hz5 hz4 hbl
  have x1 := q4.c1
  obtain ⟨k0, k1, k2, _⟩ := q6.all
  have HB := Lib.hid hb0
  have Q := Lib.hid (And.intro q4 (And.intro q5 q6))
  clear hb0 q4 q5 q6
  go_wp2_with fail
  refine (hof bh seed k.1 k.2.1 k.2.2 W1 (HH.out.2.2.2.2.2.1.below HB.out) HH.out.2.2.2.2.2.2.2.1.1 HH.out.2.2.2.2.2.2.2.1.2.1 HH.out.2.2.2.2.2.2.2.1.2.2).mono ?_
  rintro x W2 ⟨rfl, h2, hg⟩
  have kg := Kp.of_grown hg (F := fun q => q = bh) (fun q e => .inl (Option.some.inj e).symm)
  have hz := HZ.out
  have b4 : Below W2.heap.size W2 (W2.alloc (.cells #[.int .u64 (hashN seed k.1 k.2.1 k.2.2 : Nat)] 28)) := (Below.refl _ W2).alloc (Nat.le_refl _) _
  have q4 := (Q.out.1.kp kg (by omega)).below b4
  have q5 := (Q.out.2.1.kp kg (by omega)).below b4
  have q6 := (Q.out.2.2.kp kg (by omega)).below b4
  have q10 := C1.new W2 28 (.int .u64 (hashN seed k.1 k.2.1 k.2.2 : Nat))
  have kp3 := ((Kp.of_below HB.out (fun q => q = bh)).trans kg (fun q e => .inl e)).trans (Kp.of_below b4 (fun _ => False)) (fun _ h => h.elim)
  have h3 := h2.below b4
  have hs2 : W1.heap.size ≤ W2.heap.size := kg.size
  have hbs := HB.out.size
  clear hg kg x1 k0 k1 k2 h2 b4 hz
  go_upto_region 4 with fail
  generalize W2.alloc (.cells #[.int .u64 (hashN seed k.1 k.2.1 k.2.2 : Nat)] 28) = W3 at q4 q5 q6 q10 kp3 h3 ⊢
  obtain ⟨z10, hz10⟩ : ∃ z, z = W2.heap.size := ⟨_, rfl⟩
  rw [← hz10] at q10 ⊢
  have HZ2 := Lib.hid (show z6 < W3.heap.size ∧ z10 < W3.heap.size ∧ z4 < W3.heap.size ∧ bh < W3.heap.size ∧ bh ≠ z6 ∧ bh ≠ z10 ∧ bh ≠ z4 from ⟨q6.lt, q10.lt, q4.lt, h3.lt, by have := HZ.out; omega, by have := HZ.out; omega, by have := HZ.out; omega⟩)
  obtain ⟨x0, x1, _⟩ := q4.all
  obtain ⟨x2, x3, _⟩ := q5.all
  have K3 := Lib.hid kp3
  have C3' := Lib.hid (show CA b bh seed z6 z10 z4 k W3 from ⟨q6, q10, q4, h3⟩)
  clear q4 q5 q6 q10 kp3 h3 hz10 hs2 hbs
  go_wp2_with fail
  refine (vgather (N := N) (hs := hs) (l := l) (most := n) (mostA := mostA) (M := M) (F := F) W3 (HH.out.1.kp K3.out (fun q hf hq => HH.out.2.2.2.2.2.2.1 (hq ▸ hf))) HH.out.2.1 HH.out.2.2.1 HH.out.2.2.2.1 (by have := HH.out.2.2.2.2.1; omega) (wants_after W3.heap.size z6 z10 z4 k l HH.out.2.2.2.2.2.2.2.2 HZ2.out) (fun q hq hf => HH.out.2.2.2.2.2.2.1 (hq ▸ hf)) C3'.out).mono ?_
  rintro e w2 ⟨v, rfl, hown, ⟨_, hC⟩, hk⟩
  have hga := gaF_filter (f := fun p : Pr => decide (ordN (hashN seed k.1 k.2.1 k.2.2) (hashN seed p.1.1 p.1.2.1 p.1.2.2) k p.1 < 0)) (most := n) l 0 [] (Nat.zero_le _)
  rw [List.nil_append] at hga
  have e0 : n - ([] : List Pr).length = n := rfl
  rw [e0] at hga
  rw [hga] at hown
  have FIN := Lib.hid (And.intro (own_base hown K3.out.size) (And.intro (K3.out.trans hk (fun q e => .inl e)) hC.2.2.2))
  clear hown hk hga x0 x1 x2 x3 hC e0
  go_wp2_with fail
  go_ret2
  exact ⟨v, rfl, FIN.out⟩
end
end Go.Proofs.YtfiledbjbpkleaaGreat

/- Several texts in one. -/
import Derived.Test.YtghbbpbhbinioaaGreatMr12
import Derived.Test.YtghbbpbhbinioaaGreatMr11
set_option linter.unusedSimpArgs false
namespace Go.Proofs.YtghbbpbhbinioaaGreat
set_option maxRecDepth 100000
set_option linter.unusedSimpArgs false
set_option linter.unusedVariables false
open Go.RowKit
structure Rl (W : World) (z3 z4 g o k c : Nat) (x : Yv) (n : Nv) : Prop where
  way : BC W z3 146 (ycells x)
  lb : C1 W z4 137 (.slice (some ⟨g, o, none⟩) k c)
  row : RowN W g o n
theorem Rl.kp {W W' : World} {G : Nat → Prop} {z3 z4 g o k c : Nat} {x : Yv} {n : Nv} (h : Rl W z3 z4 g o k c x n) (hk : Kp G W W') (h3 : ¬ G z3) (h4 : ¬ G z4) (hg : ¬ G g) : Rl W' z3 z4 g o k c x n := ⟨h.way.kp hk h3, h.lb.kp hk h4, h.row.kp hk hg⟩
section
set_option maxHeartbeats 1600000 in
theorem vrelink_nil (x : Yv) (A : Option Addr) (c : Nat) (f : FuncId) (caps : Array Value) (R : Value → World → Prop) (w : World) (hfe : ∀ (args : Array Value) (W : World), (callFunc f args).run Tryz.prog W = .ok (.enter f args) W)
    (hc : ∀ W, Below w.heap.size w W → Calls Tryz.prog f caps W fun e W' => ∃ v, e = .returned v ∧ R v W') :
    Calls Tryz.prog 115 #[yagg x, .slice A 0 c, .func (.func f) #[] caps] w fun e w' => ∃ v, e = .returned v ∧ R v w' := by
  have hb : Below w.heap.size w (((w.alloc (.cells (ycells x) 146)).alloc (.cells #[.slice A 0 c] 137)).alloc (.cells #[.func (.func f) #[] caps] 86)) := (((Below.refl _ w).alloc (Nat.le_refl _) _).alloc (by simp) _).alloc (by simp; omega) _
  have e1 : (w.alloc (.cells (ycells x) 146)).heap.size = w.heap.size + 1 := by simp
  have e2 : ((w.alloc (.cells (ycells x) 146)).alloc (.cells #[.slice A 0 c] 137)).heap.size = w.heap.size + 1 + 1 := by simp
  have q2 := (C1.new (w.alloc (.cells (ycells x) 146)) 137 (.slice A 0 c)).alloc (.cells #[.func (.func f) #[] caps] 86)
  have q3 := C1.new ((w.alloc (.cells (ycells x) 146)).alloc (.cells #[.slice A 0 c] 137)) 86 (.func (.func f) #[] caps)
  rw [e1] at q2
  rw [e2] at q3
  have HC := Lib.hid (hc _ hb)
  clear hc hb e1 e2
  go_enter Tryz.func115, Tryz.ntmps115
  go_upto_region 1 with fail
  change Code.wp _ _ _ _ (((w.alloc (.cells (ycells x) 146)).alloc (.cells #[.slice A 0 c] 137)).alloc (.cells #[.func (.func f) #[] caps] 86))
  generalize World.alloc (World.alloc (w.alloc _) _) _ = W1 at q2 q3 HC ⊢
  have x2 := q2.c0
  have x3 := q3.c0
  clear q2 q3
  go_wp2_with fail
  refine HC.out.mono ?_
  rintro e w2 ⟨v, rfl, hR⟩
  have HR := Lib.hid hR
  clear hR x2 x3 HC
  go_wp2_with fail
  go_ret
  exact ⟨v, rfl, HR.out⟩
set_option maxHeartbeats 8000000 in
theorem vrelink_cons (x : Yv) (n : Nv) (l : List Nv) (A : Option Addr) (c : Nat) (f : FuncId) (caps : Array Value) (R : Value → World → Prop) (w : World) (hl : NL w A (n :: l)) (hn : l.length ≤ 1000000)
    (hc : ∀ W z3 z4 z5, Below w.heap.size w W → w.heap.size ≤ z3 → w.heap.size ≤ z4 → w.heap.size ≤ z5 → BC W z3 146 (ycells x) → C1 W z4 137 (.slice A (l.length + 1) c) → C1 W z5 86 (.func (.func f) #[] caps) →
      Calls Tryz.prog 117 #[yagg x, nagg n, .func (.func 159) #[] #[.pointer (some ⟨z3, 0, none⟩), .pointer (some ⟨z4, 0, none⟩), .pointer (some ⟨z5, 0, none⟩)]] W fun e W' => ∃ v G, e = .returned v ∧ R v W' ∧ Kp G W W' ∧ ¬ G z3 ∧ ¬ G z4 ∧ ∀ g o, A = some ⟨g, o, none⟩ → ¬ G g) :
    Calls Tryz.prog 115 #[yagg x, .slice A (l.length + 1) c, .func (.func f) #[] caps] w fun e w' => ∃ v, e = .returned v ∧ R v w' := by
  obtain ⟨k, hk⟩ : ∃ k, k = l.length + 1 := ⟨_, rfl⟩
  rw [← hk] at hc ⊢
  have e1 : (w.alloc (.cells (ycells x) 146)).heap.size = w.heap.size + 1 := by simp
  have e2 : ((w.alloc (.cells (ycells x) 146)).alloc (.cells #[.slice A k c] 137)).heap.size = w.heap.size + 1 + 1 := by simp
  have hb : Below w.heap.size w (((w.alloc (.cells (ycells x) 146)).alloc (.cells #[.slice A k c] 137)).alloc (.cells #[.func (.func f) #[] caps] 86)) := (((Below.refl _ w).alloc (Nat.le_refl _) _).alloc (by simp) _).alloc (by simp; omega) _
  have q1 := ((BC.new w 146 (ycells x)).alloc (.cells #[.slice A k c] 137)).alloc (.cells #[.func (.func f) #[] caps] 86)
  have q2 := (C1.new (w.alloc (.cells (ycells x) 146)) 137 (.slice A k c)).alloc (.cells #[.func (.func f) #[] caps] 86)
  have q3 := C1.new ((w.alloc (.cells (ycells x) 146)).alloc (.cells #[.slice A k c] 137)) 86 (.func (.func f) #[] caps)
  rw [e1] at q2
  rw [e2] at q3
  have hl1 := hl.below hb
  have HB := Lib.hid hb
  have HC := Lib.hid hc
  have HK := Lib.hid hk
  clear hc e1 e2 hl hb hk
  go_enter Tryz.func115, Tryz.ntmps115
  go_upto_region 1 with fail
  change Code.wp _ _ _ _ (((w.alloc (.cells (ycells x) 146)).alloc (.cells #[.slice A k c] 137)).alloc (.cells #[.func (.func f) #[] caps] 86))
  generalize World.alloc (World.alloc (w.alloc _) _) _ = W1 at q1 q2 q3 hl1 HB ⊢
  obtain ⟨z3, hz3⟩ : ∃ z, z = w.heap.size := ⟨_, rfl⟩
  obtain ⟨z4, hz4⟩ : ∃ z, z = w.heap.size + 1 := ⟨_, rfl⟩
  obtain ⟨z5, hz5⟩ : ∃ z, z = w.heap.size + 1 + 1 := ⟨_, rfl⟩
  have HZ := Lib.hid (And.intro hz3 (And.intro hz4 hz5))
  rw [← hz5] at q3
  rw [← hz4] at q2
  rw [← hz3] at q1
  rw [← hz5, ← hz4, ← hz3]
  clear hz3 hz4 hz5
  have x4 := q2.c0
  have hk0 : ¬ (k : Int) = 0 := by have := HK.out; omega
  have hk1 : (0 : Int) < (k : Int) := by have := HK.out; omega
  have hk2 : 0 < k := by have := HK.out; omega
  have hk3 : ¬ k = 0 := by have := HK.out; omega
  obtain ⟨g, o, rfl, hg, hcells⟩ := hl1.head
  clear hl1
  go_upto_region 3 with fail
  have HC3 := Lib.hid (fun (W : World) (hb : Below W1.heap.size W1 W) => HC.out W z3 z4 z5 (HB.out.trans (hb.mono HB.out.size)) (by have := HZ.out; omega) (by have := HZ.out; omega) (by have := HZ.out; omega) (q1.below hb) (q2.below hb) (q3.below hb))
  clear x4 HC
  have hH := (Rl.mk q1 q2 hcells : Rl W1 z3 z4 g o k c x n)
  have C0 := fun (W' : World) (h : Rl W' z3 z4 g o k c x n) => h.lb.c0
  clear q1 q2 q3 hg hcells
  refine wp_region_noPanic ?_
  refine wp_region_held_drew (S := fun W' => Rl W' z3 z4 g o k c x n) (by kernel_rfl) (hH.kp (Kp.of_below (Below.refl _ W1).drew (fun _ => False)) (fun h => h) (fun h => h) (fun h => h)) (fun hH => ?_)
  have HC4 := Lib.hid (HC3.out _ (Below.refl _ W1).drew)
  clear HC3
  generalize W1.drew = Wc at hH HC4 ⊢
  refine wpAnyH_take (i := 0) (v := yagg x) rfl (by kernel_rfl) (by kernel_rfl) (by kernel_rfl) (fun _ _ _ h => h) (Or.inl ⟨by rfl, fun W' hS => exec_way rfl rfl (Rl.way hS)⟩) hH ?_
  simp only [Act.put, List.setIfInBounds_toArray, List.set_cons_zero, List.set_cons_succ, List.getElem_toArray, List.getElem_cons_zero, List.getElem_cons_succ]
  refine tkH ?_ 1 hH ?_ ?_; rotate_left
  · intro W' hS; go_simp; with_reducible rfl
  simp only [tkr]
  refine tkH ?_ 2 hH ?_ ?_; rotate_left
  · intro W' hS; go_simp; with_reducible rfl
  simp only [tkr]
  refine wpAnyH_take (i := 3) (v := nagg n) rfl (by kernel_rfl) (by kernel_rfl) (by kernel_rfl) (fun _ _ _ h => h) (Or.inl ⟨by rfl, fun W' hS => exec_row rfl rfl (Rl.row hS)⟩) hH ?_
  simp only [Act.put, List.setIfInBounds_toArray, List.set_cons_zero, List.set_cons_succ, List.getElem_toArray, List.getElem_cons_zero, List.getElem_cons_succ]
  refine wpAnyH_take (i := 4) (v := .func (.func 159) #[] #[.pointer (some ⟨z3, 0, none⟩), .pointer (some ⟨z4, 0, none⟩), .pointer (some ⟨z5, 0, none⟩)]) rfl (by kernel_rfl) (by kernel_rfl) (by kernel_rfl) (fun _ _ _ h => h) (Or.inl ⟨by rfl, fun W' hS => by kernel_rfl⟩) hH ?_
  simp only [Act.put, List.setIfInBounds_toArray, List.set_cons_zero, List.set_cons_succ, List.getElem_toArray, List.getElem_cons_zero, List.getElem_cons_succ]
  refine rdH 5 rfl (fun K hK => ?_)
  clear C0
  go_simp
  refine HC4.out.mono ?_
  rintro e W2 ⟨v, G, rfl, hR, hk, h3, h4, hg⟩
  have HR := Lib.hid hR
  have hH2 := hH.kp hk h3 h4 (hg g o rfl)
  simp only
  refine hK.out _ _ hH2 (fun hH => ?_)
  clear hK K hH2 hR hk h3 h4 hg HC4
  refine tkH ?_ 6 hH ?_ ?_; rotate_left
  · intro W' hS; go_simp; with_reducible rfl
  simp only [tkr]
  refine wpAnyH_done (by kernel_rfl) ?_ _
  refine NoPanic.normal ?_
  clear hH
  go_wp2_with fail
  go_ret
  exact ⟨v, rfl, HR.out⟩
end
end Go.Proofs.YtghbbpbhbinioaaGreat

namespace Go.Proofs.YtghbbpbhbinioaaGreat
set_option maxRecDepth 100000
set_option linter.unusedSimpArgs false
set_option linter.unusedVariables false
open Go.RowKit
structure Rc (W : World) (z3 z4 z5 g o k c : Nat) (x : Yv) (f : FuncId) (caps : Array Value) : Prop where
  way : BC W z3 146 (ycells x)
  lb : C1 W z4 137 (.slice (some ⟨g, o, none⟩) k c)
  eb : C1 W z5 86 (.func (.func f) #[] caps)
section
variable {W W' : World} {z3 z4 z5 g o k c : Nat} {x : Yv} {f : FuncId} {caps : Array Value}
theorem Rc.kp {G : Nat → Prop} (h : Rc W z3 z4 z5 g o k c x f caps) (hk : Kp G W W') (h3 : ¬ G z3) (h4 : ¬ G z4) (h5 : ¬ G z5) : Rc W' z3 z4 z5 g o k c x f caps := ⟨h.way.kp hk h3, h.lb.kp hk h4, h.eb.kp hk h5⟩
theorem Rc.below (h : Rc W z3 z4 z5 g o k c x f caps) (hb : Below W.heap.size W W') : Rc W' z3 z4 z5 g o k c x f caps := h.kp (Kp.of_below hb (fun _ => False)) id id id
end
section
set_option maxHeartbeats 8000000 in
theorem vrelinkC (x : Yv) (n : Nv) (l : List Nv) (g o c z3 z4 z5 zn : Nat) (f : FuncId) (caps : Array Value) (R : Nat → World → Prop) (w : World) (hr : Rc w z3 z4 z5 g o (l.length + 1) c x f caps) (hnb : BC w zn 144 (ncells n)) (hnz : ¬ z3 = zn ∧ ¬ z4 = zn ∧ ¬ z5 = zn) (hcap : l.length + 1 ≤ c) (hn : l.length ≤ 1000000)
    (hc : ∀ W A1 c1, Below w.heap.size w W → (A1 = some ⟨g, o + 14, none⟩ ∨ l.length = 0 ∧ A1 = some ⟨g, o, none⟩) → l.length ≤ c1 → Calls Tryz.prog 115 #[yagg x, .slice A1 l.length c1, .func (.func f) #[] caps] W fun e W' => ∃ (m : Nat) (G : Nat → Prop), e = .returned (.int .i64 (m : Nat)) ∧ R m W' ∧ Kp G W W' ∧ ¬ G z3 ∧ ¬ G z4 ∧ ¬ G z5 ∧ ¬ G zn) :
    Calls Tryz.prog 159 #[.pointer (some ⟨zn, 0, none⟩), .pointer (some ⟨z3, 0, none⟩), .pointer (some ⟨z4, 0, none⟩), .pointer (some ⟨z5, 0, none⟩)] w fun e w' => ∃ r m W, e = .returned r ∧ R m W ∧ BC W zn 144 (ncells n) ∧ w' = W.setCell ⟨zn, 11 + sideN n x.key, none⟩ (.int .i64 (m : Nat)) := by
  obtain ⟨k, hk⟩ : ∃ k, k = l.length + 1 := ⟨_, rfl⟩
  rw [← hk] at hr hcap
  obtain ⟨sd, hsd⟩ : ∃ sd, sd = sideN n x.key := ⟨_, rfl⟩
  have HSD2 := Lib.hid (show sd = 0 ∨ sd = 1 from by rw [hsd]; unfold sideN; split <;> simp)
  rw [← hsd]
  have HSD := Lib.hid hsd
  have HK := Lib.hid (show k - 1 = l.length from by omega)
  have HNZ := Lib.hid hnz
  have HC := Lib.hid hc
  have hk1 : (1 : Int) ≤ (k : Int) := by omega
  have hk2 : 1 ≤ k := by omega
  have hs0 : (0 : Int) ≤ (sd : Int) := by omega
  have hs1 : (sd : Int) < 2 := by rcases HSD2.out with e | e <;> rw [e] <;> decide
  have hs2 : sd < 2 := by omega
  clear hk hc hsd hnz
  go_enter Tryz.func159, Tryz.ntmps159
  have C0 := fun (W' : World) (h : Rc W' z3 z4 z5 g o k c x f caps) => h.lb.c0
  have K0 := fun (W' : World) (h : Rc W' z3 z4 z5 g o k c x f caps) => h.way.way.2.2.2.1
  have K1 := fun (W' : World) (h : Rc W' z3 z4 z5 g o k c x f caps) => h.way.way.2.2.2.2.1
  have K2 := fun (W' : World) (h : Rc W' z3 z4 z5 g o k c x f caps) => h.way.way.2.2.2.2.2.1
  have E0 := fun (W' : World) (h : Rc W' z3 z4 z5 g o k c x f caps) => h.eb.c0
  by_cases hc1 : c = 1
  · obtain rfl : l = [] := List.eq_nil_of_length_eq_zero (by have := HK.out; omega)
    obtain rfl : k = 1 := by omega
    subst hc1
    refine wp_region_noPanic ?_
    refine wp_region_held_drew (S := fun W' => Rc W' z3 z4 z5 g o 1 1 x f caps) (by kernel_rfl) (hr.below (Below.refl _ w).drew) (fun hH => ?_)
    have HB := Lib.hid (show Below w.heap.size w w.drew from (Below.refl _ w).drew)
    have hN := hnb.below HB.out
    clear hr hnb
    generalize w.drew = Wc at hH HB hN ⊢
    refine tkH ?_ 0 hH ?_ ?_; rotate_left
    · intro W' hS; go_simp; with_reducible rfl
    simp only [tkr]
    refine tkH ?_ 1 hH ?_ ?_; rotate_left
    · intro W' hS; go_simp; with_reducible rfl
    simp only [tkr]
    refine tkH ?_ 2 hH ?_ ?_; rotate_left
    · intro W' hS; go_simp; with_reducible rfl
    simp only [tkr]
    refine tkH ?_ 4 hH ?_ ?_; rotate_left
    · intro W' hS; go_simp; with_reducible rfl
    simp only [tkr]
    refine tkH ?_ 5 hH ?_ ?_; rotate_left
    · intro W' hS; go_simp; with_reducible rfl
    simp only [tkr]
    refine wpAnyH_take (i := 7) (v := yagg x) rfl (by kernel_rfl) (by kernel_rfl) (by kernel_rfl) (fun _ _ _ h => h) (Or.inl ⟨by rfl, fun W' hS => exec_way rfl rfl (Rc.way hS)⟩) hH ?_
    simp only [Act.put, List.setIfInBounds_toArray, List.set_cons_zero, List.set_cons_succ, List.getElem_toArray, List.getElem_cons_zero, List.getElem_cons_succ]
    refine tkH ?_ 8 hH ?_ ?_; rotate_left
    · intro W' hS; go_simp; with_reducible rfl
    simp only [tkr]
    refine tkH ?_ 9 hH ?_ ?_; rotate_left
    · intro W' hS; go_simp; with_reducible rfl
    simp only [tkr]
    refine tkH ?_ 10 hH ?_ ?_; rotate_left
    · intro W' hS; go_simp; with_reducible rfl
    simp only [tkr]
    refine tkH ?_ 12 hH ?_ ?_; rotate_left
    · intro W' hS; go_simp; with_reducible rfl
    simp only [tkr]
    refine tkH ?_ 13 hH ?_ ?_; rotate_left
    · intro W' hS; go_simp; with_reducible rfl
    simp only [tkr]
    refine rdH 3 rfl (fun K hK => ?_)
    obtain ⟨d0, d1, d2, d3, d4, d5, d6, d7, d8, d9, d10, d11, d12, d13⟩ := hN.node
    go_simp
    clear d0 d1 d2 d3 d4 d5 d6 d7 d8 d9 d10 d11 d12 d13
    refine hK.out _ _ hH (fun hH => ?_)
    clear hK K
    refine rdH 6 rfl (fun K hK => ?_)
    go_simp
    have HS := Lib.hid (nside n x.key Wc)
    rw [← HSD.out] at HS
    refine HS.out.mono ?_
    rintro e Wn ⟨rfl, hbn⟩
    have hH2 := hH.below hbn
    replace hN := hN.below hbn
    replace HB := Lib.hid (HB.out.trans (hbn.mono HB.out.size))
    simp only
    refine hK.out _ _ hH2 (fun hH => ?_)
    clear hK K hH2 hbn HS
    rename World => Wc
    refine rdH 11 rfl (fun K hK => ?_)
    go_simp
    skip
    refine (HC.out Wc (some ⟨g, o, none⟩) 0 HB.out (.inr ⟨rfl, rfl⟩) (Nat.le_refl 0)).mono ?_
    rintro e Wn ⟨m, G, rfl, hR, hkp, g3, g4, g5, gn⟩
    have hH2 := hH.kp hkp g3 g4 g5
    replace hN := hN.kp hkp gn
    have HR := Lib.hid hR
    simp only
    refine hK.out _ _ hH2 (fun hH => ?_)
    clear hK K hH2 hkp hR g3 g4 g5 gn
    rename World => Wc
    refine tkH ?_ 14 hH ?_ ?_; rotate_left
    · intro W' hS; go_simp; with_reducible rfl
    simp only [tkr]
    refine rdH 15 rfl (fun K hK => ?_)
    obtain ⟨v0, c0⟩ : ∃ v0, Wc.cell? ⟨zn, 11 + sd, none⟩ = some v0 := by
      rcases HSD2.out with e | e
      · rw [e]; exact ⟨_, hN.node.2.2.2.2.2.2.2.2.2.2.2.1⟩
      · rw [e]; exact ⟨_, hN.node.2.2.2.2.2.2.2.2.2.2.2.2.1⟩
    have f0 := hN.fz (11 + sd)
    go_simp
    clear c0 f0
    have kz : Kp (fun q => q = zn) Wc (Wc.setCell ⟨zn, 11 + sd, none⟩ (.int .i64 (m : Nat))) := (Kp.refl (fun q => q = zn) Wc).setCell (.inl rfl) _
    refine hK.out _ _ (hH.kp kz HNZ.out.1 HNZ.out.2.1 HNZ.out.2.2) (fun hH => ?_)
    clear hK K hH kz
    refine wpAnyH_done (by kernel_rfl) ?_ _
    refine NoPanic.normal ?_
    go_wp2_with fail
    go_end0
    exact ⟨_, m, Wc, rfl, HR.out, hN, rfl⟩
  · have HCAP := Lib.hid hcap
    refine wp_region_noPanic ?_
    refine wp_region_held_drew (S := fun W' => Rc W' z3 z4 z5 g o k c x f caps) (by kernel_rfl) (hr.below (Below.refl _ w).drew) (fun hH => ?_)
    have HB := Lib.hid (show Below w.heap.size w w.drew from (Below.refl _ w).drew)
    have hN := hnb.below HB.out
    clear hr hnb
    generalize w.drew = Wc at hH HB hN ⊢
    refine tkH ?_ 0 hH ?_ ?_; rotate_left
    · intro W' hS; go_simp; with_reducible rfl
    simp only [tkr]
    refine tkH ?_ 1 hH ?_ ?_; rotate_left
    · intro W' hS; go_simp; with_reducible rfl
    simp only [tkr]
    refine tkH ?_ 2 hH ?_ ?_; rotate_left
    · intro W' hS; go_simp; with_reducible rfl
    simp only [tkr]
    refine tkH ?_ 4 hH ?_ ?_; rotate_left
    · intro W' hS; go_simp; with_reducible rfl
    simp only [tkr]
    refine tkH ?_ 5 hH ?_ ?_; rotate_left
    · intro W' hS; go_simp; with_reducible rfl
    simp only [tkr]
    refine wpAnyH_take (i := 7) (v := yagg x) rfl (by kernel_rfl) (by kernel_rfl) (by kernel_rfl) (fun _ _ _ h => h) (Or.inl ⟨by rfl, fun W' hS => exec_way rfl rfl (Rc.way hS)⟩) hH ?_
    simp only [Act.put, List.setIfInBounds_toArray, List.set_cons_zero, List.set_cons_succ, List.getElem_toArray, List.getElem_cons_zero, List.getElem_cons_succ]
    refine tkH ?_ 8 hH ?_ ?_; rotate_left
    · intro W' hS; go_simp; with_reducible rfl
    simp only [tkr]
    refine tkH ?_ 9 hH ?_ ?_; rotate_left
    · intro W' hS; go_simp; with_reducible rfl
    simp only [tkr]
    refine tkH ?_ 10 hH ?_ ?_; rotate_left
    · intro W' hS; go_simp; with_reducible rfl
    simp only [tkr]
    refine tkH ?_ 12 hH ?_ ?_; rotate_left
    · intro W' hS; go_simp; with_reducible rfl
    simp only [tkr]
    refine tkH ?_ 13 hH ?_ ?_; rotate_left
    · intro W' hS; go_simp; with_reducible rfl
    simp only [tkr]
    refine rdH 3 rfl (fun K hK => ?_)
    obtain ⟨d0, d1, d2, d3, d4, d5, d6, d7, d8, d9, d10, d11, d12, d13⟩ := hN.node
    go_simp
    clear d0 d1 d2 d3 d4 d5 d6 d7 d8 d9 d10 d11 d12 d13
    refine hK.out _ _ hH (fun hH => ?_)
    clear hK K
    refine rdH 6 rfl (fun K hK => ?_)
    go_simp
    have HS := Lib.hid (nside n x.key Wc)
    rw [← HSD.out] at HS
    refine HS.out.mono ?_
    rintro e Wn ⟨rfl, hbn⟩
    have hH2 := hH.below hbn
    replace hN := hN.below hbn
    replace HB := Lib.hid (HB.out.trans (hbn.mono HB.out.size))
    simp only
    refine hK.out _ _ hH2 (fun hH => ?_)
    clear hK K hH2 hbn HS
    rename World => Wc
    refine rdH 11 rfl (fun K hK => ?_)
    go_simp
    rw [HK.out]
    refine (HC.out Wc (some ⟨g, o + 14, none⟩) (c - 1) HB.out (.inl rfl) (by have := HK.out; have := HCAP.out; omega)).mono ?_
    rintro e Wn ⟨m, G, rfl, hR, hkp, g3, g4, g5, gn⟩
    have hH2 := hH.kp hkp g3 g4 g5
    replace hN := hN.kp hkp gn
    have HR := Lib.hid hR
    simp only
    refine hK.out _ _ hH2 (fun hH => ?_)
    clear hK K hH2 hkp hR g3 g4 g5 gn
    rename World => Wc
    refine tkH ?_ 14 hH ?_ ?_; rotate_left
    · intro W' hS; go_simp; with_reducible rfl
    simp only [tkr]
    refine rdH 15 rfl (fun K hK => ?_)
    obtain ⟨v0, c0⟩ : ∃ v0, Wc.cell? ⟨zn, 11 + sd, none⟩ = some v0 := by
      rcases HSD2.out with e | e
      · rw [e]; exact ⟨_, hN.node.2.2.2.2.2.2.2.2.2.2.2.1⟩
      · rw [e]; exact ⟨_, hN.node.2.2.2.2.2.2.2.2.2.2.2.2.1⟩
    have f0 := hN.fz (11 + sd)
    go_simp
    clear c0 f0
    have kz : Kp (fun q => q = zn) Wc (Wc.setCell ⟨zn, 11 + sd, none⟩ (.int .i64 (m : Nat))) := (Kp.refl (fun q => q = zn) Wc).setCell (.inl rfl) _
    refine hK.out _ _ (hH.kp kz HNZ.out.1 HNZ.out.2.1 HNZ.out.2.2) (fun hH => ?_)
    clear hK K hH kz
    refine wpAnyH_done (by kernel_rfl) ?_ _
    refine NoPanic.normal ?_
    go_wp2_with fail
    go_end0
    exact ⟨_, m, Wc, rfl, HR.out, hN, rfl⟩
end
end Go.Proofs.YtghbbpbhbinioaaGreat

namespace Go.Proofs.YtghbbpbhbinioaaGreat
set_option maxRecDepth 100000
set_option linter.unusedSimpArgs false
set_option linter.unusedVariables false
open Go.RowKit
structure TR (most : Nat) (M : Cells) (H : List Nat) (P : Nat → Nat) (l' : List Pr) (q n : Nat) (M' : Cells) : Prop where
  bk : Bk (most + 1) M' H P [n]
  keeps : Keeps P (blank M H) (blank M' H)
  holes : ∀ x ∈ H, M' x = M x
  live : live (most + 1) M' ≤ Proofs.YtghbbpbhbinioaaGreat.live (most + 1) M + q
  tt : TT (blank M' H) n l'
def kidN (n : Nv) (s : Nat) : Nat := if s = 0 then n.kx else n.ky
def kidO (n : Nv) (s : Nat) : Nat := if s = 0 then n.ky else n.kx
def setK (n : Nv) (s m : Nat) : Nv := if s = 0 then { n with kx := m } else { n with ky := m }
theorem count2 (a b k : Nat) : [a, b].count k = [a].count k + [b].count k := by
  rw [show [a, b] = [a] ++ [b] from rfl, List.count_append]
theorem kids_count (n : Nv) (s k : Nat) : [n.kx, n.ky].count k = [kidN n s].count k + [kidO n s].count k := by
  unfold kidN kidO
  rw [count2]
  split <;> omega
theorem setK_count (n : Nv) (s m k : Nat) : [(setK n s m).kx, (setK n s m).ky].count k = [m].count k + [kidO n s].count k := by
  unfold setK kidO
  rw [count2]
  split <;> (try simp only []) <;> omega
theorem setK_kv (n : Nv) (s m : Nat) : (setK n s m).key = n.key ∧ (setK n s m).val = n.val := by
  unfold setK
  split <;> exact ⟨rfl, rfl⟩
theorem kidN_mem (n : Nv) (s : Nat) : kidN n s ∈ [n.kx, n.ky] := by
  unfold kidN
  split <;> simp
theorem kidO_mem (n : Nv) (s : Nat) : kidO n s ∈ [n.kx, n.ky] := by
  unfold kidO
  split <;> simp
theorem setK_mem (n : Nv) (s m : Nat) : m ∈ [(setK n s m).kx, (setK n s m).ky] ∧ kidO n s ∈ [(setK n s m).kx, (setK n s m).ky] := by
  unfold setK kidO
  split <;> simp
theorem BC.setK {W : World} {z s : Nat} {n : Nv} (h : BC W z 144 (ncells n)) (hs : s = 0 ∨ s = 1) (m : Nat) : BC (W.setCell ⟨z, 11 + s, none⟩ (.int .i64 (m : Nat))) z 144 (ncells (setK n s m)) := by
  rcases hs with rfl | rfl
  · have := h.set 11 (.int .i64 (m : Nat))
    simp only [List.setIfInBounds_toArray, List.set_cons_zero, List.set_cons_succ] at this
    exact this
  · have := h.set 12 (.int .i64 (m : Nat))
    simp only [List.setIfInBounds_toArray, List.set_cons_zero, List.set_cons_succ] at this
    exact this
theorem ChgY.mono {f : FuncId} {caps : Array Value} {b most : Nat} {F X : Nat → Prop} {o : Int} {w : World} {M1 : Cells} {c : Hc} {R R' : Hc → Cells → World → Prop} (h : ChgY f caps b most F X o w M1 c R) (hr : ∀ c' M2 W, R c' M2 W → R' c' M2 W) : ChgY f caps b most F X o w M1 c R' :=
  fun v k W F1 a1 a2 a3 a4 a5 => (h v k W F1 a1 a2 a3 a4 a5).mono (fun _ _ ⟨v', k', c', M2, F2, h1, h2, h3, h4, h5, h6, h7⟩ => ⟨v', k', c', M2, F2, h1, h2, h3, h4, h5, h6, hr _ _ _ h7⟩)
theorem count1_le (a k : Nat) : [a].count k ≤ 1 := List.count_le_length
def sideL (s : Nat) (p : Pr) (lo l2 : List Pr) : List Pr := if s = 0 then l2 ++ p :: lo else lo ++ p :: l2
section
variable {most : Nat} {M : Cells} {H : List Nat} {P : Nat → Nat} {F X0 : Nat → Prop}
set_option maxHeartbeats 8000000 in
theorem vrelink_step (x : Yv) (n : Nv) (l : List Nv) (A : Option Addr) (c oth s q : Nat) (f : FuncId) (caps : Array Value) (lo L2 : List Pr) (w : World) (h : Ar w x.b most M F) (hm : most ≤ 1048576) (hX : ∀ z, X0 z → z < w.heap.size) (hb : Bk (most + 1) M H P [n.cell, oth]) (hP : ∀ j, P j + 64 ≤ 1152921504606846976) (hs : s = sideN n x.key)
    (hN : NdN (blank M H) n) (hlo : TT (blank M H) (kidO n s) lo) (hsrt : Srt h0 (sideL s (n.key, n.val) lo L2)) (hcap : l.length + 1 ≤ c) (hlen : l.length ≤ 1100) (hnl : NL w A (n :: l)) (hAg : ∀ a, A = some a → ¬ F a.block ∧ ¬ X0 a.block) (hroom : live (most + 1) M + (1 + q) ≤ most)
    (hrest : ∀ (W : World) (M1 : Cells) (H1 : List Nat) (P1 : Nat → Nat) (F1 : Nat → Prop) (A1 : Option Addr) (c1 : Nat), Rn w W x.b most M1 F F1 → Bk (most + 1) M1 H1 P1 [kidN n s, oth] → (∀ j, P1 j ≤ P j + 2) → (kidN n s ≠ 0 → Pres (blank M H) (blank M1 H1) (kidN n s)) → (oth ≠ 0 → Pres (blank M H) (blank M1 H1) oth) → live (most + 1) M1 + q ≤ most → NL W A1 l → l.length ≤ c1 → (∀ a, A1 = some a → l ≠ [] → ¬ F1 a.block ∧ ¬ X0 a.block) →
      Calls Tryz.prog 115 #[yagg x, .slice A1 l.length c1, .func (.func f) #[] caps] W fun e W' => ∃ (m : Nat) (M2 : Cells), e = .returned (.int .i64 (m : Nat)) ∧ TR most M1 H1 P1 L2 q m M2 ∧ StpX W W' x.b most M2 F1 X0) :
    Calls Tryz.prog 115 #[yagg x, .slice A (l.length + 1) c, .func (.func f) #[] caps] w fun e w' => ∃ (m : Nat) (M' : Cells), e = .returned (.int .i64 (m : Nat)) ∧ TR most M H P (sideL s (n.key, n.val) lo L2) (1 + q) m M' ∧ StpX w w' x.b most M' F X0 := by
  have hF : ∀ q, F q → q < w.heap.size := fun q hq => h.lt hq
  have hs01 : s = 0 ∨ s = 1 := by rw [hs]; unfold sideN; split <;> simp
  obtain ⟨c0, r0, hN0⟩ := hN
  have hiH := (hb.hand (i := n.cell) (by simp) hN0.ne).2
  have hMi : M n.cell = some (c0, r0) := by have := hN0.cell; rwa [blank_out hiH] at this
  have hcc : contC M n.cell = c0 := by unfold contC; rw [hMi]
  obtain ⟨P0, hP0⟩ : ∃ P0 : Nat → Nat, P0 = fun k => P k + [oth].count k := ⟨_, rfl⟩
  have hb0 : Bk (most + 1) M H P0 [n.cell] := hb.move (fun k _ => by rw [hP0, count2]; show P k + _ = P k + _ + _; omega) (fun y hy => by rw [hP0]; exact Nat.le_trans (hb.hole y hy).1 (Nat.le_add_right _ _))
  have hP0b : ∀ j, P0 j ≤ P j + 1 := fun j => by rw [hP0]; have := count1_le oth j; show P j + _ ≤ _; omega
  have hg : ∃ g o, A = some ⟨g, o, none⟩ ∧ g < w.heap.size := by
    obtain ⟨g, o, e, hg, _⟩ := hnl.head
    exact ⟨g, o, e, hg⟩
  obtain ⟨g, o, rfl, hgl⟩ := hg
  have hAg' := hAg _ rfl
  simp only at hAg'
  have hnl2 := hnl.tail
  refine (vrelink_cons x n l (some ⟨g, o, none⟩) c f caps (fun v w' => ∃ (m : Nat) (M' : Cells), v = .int .i64 (m : Nat) ∧ TR most M H P (sideL s (n.key, n.val) lo L2) (1 + q) m M' ∧ StpX w w' x.b most M' F X0) w hnl (by omega) (fun W z3 z4 z5 hW g3 g4 g5 b3 b4 b5 => ?_)).mono ?_
  · have hA := h.below hW
    refine (vedit_cell x n 159 #[.pointer (some ⟨z3, 0, none⟩), .pointer (some ⟨z4, 0, none⟩), .pointer (some ⟨z5, 0, none⟩)] (fun v w' => ∃ (m : Nat) (M' : Cells), v = .int .i64 (m : Nat) ∧ TR most M H P (sideL s (n.key, n.val) lo L2) (1 + q) m M' ∧ StpX w w' x.b most M' F X0 ∧ Kp (FX F X0) W w') W (fun W2 y3 y4 y5 hW2 k3 k4 k5 ne34 ne45 d3 d4 d5 => ?_)).mono ?_
    · have hA2 := hA.below hW2
      have hWs := hW.size
      have hW2s := hW2.size
      obtain ⟨X, hXe⟩ : ∃ X : Nat → Prop, X = fun z => X0 z ∨ z = y4 := ⟨_, rfl⟩
      have hXX : ∀ z, X z → z < W2.heap.size := fun z hz => by rw [hXe] at hz; exact hz.elim (fun hz => by have := hX z hz; omega) (fun e => by rw [e]; exact d4.lt)
      have hFs : ∀ z, w.heap.size ≤ z → ¬ F z := fun z hz hf => by have := hF z hf; omega
      refine (renewX (P := P) 160 #[.pointer (some ⟨y5, 0, none⟩), .pointer (some ⟨y4, 0, none⟩), .pointer (some ⟨y3, 0, none⟩)] n.cell x.ow c0 q
        (fun M1 H1 ex _ c' M2 => ex = [] ∧ ∃ m, TR most M1 H1 (fun k => addP P n.cell k + [kidO n s].count k) L2 q m M2 ∧ c'.vals = [n.key, n.val] ∧ c'.kids = [(setK n s m).kx, (setK n s m).ky]) W2 hXX hA2 (fun args W => by kernel_rfl) hm (fun k => by rw [hP0]; exact Nat.le_add_right _ _) (fun j => by have := hP j; have := hP0b j; omega) hb0 hcc (by split <;> omega) (fun _ _ _ _ _ => Steady.of _ _ _) (fun M1 H1 hw1 => ?_)).mono ?_
      · obtain ⟨P1, hP1⟩ : ∃ P1 : Nat → Nat, P1 = fun k => addP P n.cell k + [kidO n s].count k := ⟨_, rfl⟩
        rw [← hP1]
        have hadd : ∀ j, addP P n.cell j ≤ P j + 1 := fun j => by unfold addP; split <;> omega
        have hP1b : ∀ j, P1 j ≤ P j + 2 := fun j => by rw [hP1]; have := hadd j; have := count1_le (kidO n s) j; show addP P n.cell j + _ ≤ _; omega
        have hb2 : Bk (most + 1) M1 H1 P1 [kidN n s, oth] := hw1.bk.move (fun k' _ => by
          rw [hP1, hN0.kids, kids_count n s k', count2]
          show addP P0 n.cell k' + _ = addP P n.cell k' + _ + _
          have : addP P0 n.cell k' = addP P n.cell k' + [oth].count k' := by rw [hP0]; unfold addP; simp only []; omega
          omega) (fun y hy => by
          rw [hP1]
          refine Nat.le_trans ?_ (Nat.le_add_right _ _)
          rcases hw1.way with ⟨_, _, e⟩ | ⟨_, _, e⟩
          · rw [e] at hy
            rcases List.mem_cons.1 hy with rfl | hy
            · exact addP_self _ _
            · exact Nat.le_trans (hb.hole y hy).1 (addP_le _ _ _)
          · rw [e] at hy
            exact Nat.le_trans (hb.hole y hy).1 (addP_le _ _ _))
        have hka : ∀ k, k ∈ [n.kx, n.ky] → k ≠ 0 → Pres (blank M H) (blank M1 H1) k := fun k hk h0 => hw1.kids k (by rw [hN0.kids]; exact hk) h0
        have hoth : oth ≠ 0 → Pres (blank M H) (blank M1 H1) oth := fun h0 => hw1.keeps oth h0 (by rw [hP0]; show 1 ≤ P oth + [oth].count oth; simp)
        have hl1 := hw1.live
        refine (chgY_edit (Rin := fun n' M2 _ => ∃ m, n' = setK n s m ∧ TR most M1 H1 P1 L2 q m M2) x n y3 y4 y5 159 #[.pointer (some ⟨z3, 0, none⟩), .pointer (some ⟨z4, 0, none⟩), .pointer (some ⟨z5, 0, none⟩)] c0 W2 (fun _ _ => Steady.of _ _ _) (fun args W => by kernel_rfl) hXX d3 d4 d5 ⟨hFs _ (by omega), fun hx => by rw [hXe] at hx; exact hx.elim (fun hx => by have := hX _ hx; omega) ne34⟩ (hFs _ (by omega)) (hFs _ (by omega)) (fun W5 F1 hRn hnb => ?_)).mono ?_
        · have hF1 : ∀ z, F1 z → F z ∨ W2.heap.size ≤ z := hRn.sub
          have b3' := (b3.below hW2).kp hRn.kp (hFs _ g3)
          have b4' := (b4.below hW2).kp hRn.kp (hFs _ g4)
          have b5' := (b5.below hW2).kp hRn.kp (hFs _ g5)
          have l3 := b3.lt
          have l4 := b4.lt
          have l5 := b5.lt
          have l4y := d4.lt
          have rnw : Rn w W5 x.b most M1 F F1 := ⟨hRn.ar, (Kp.of_below (hW.trans (hW2.mono hWs)) F).trans hRn.kp (fun _ => .inl), fun z hz => (hF1 z hz).imp id (fun hz => by omega)⟩
          have nF1 : ∀ z, w.heap.size ≤ z → z < W2.heap.size → ¬ F1 z := fun z h1 h2 hz => (hF1 z hz).elim (hFs z h1) (fun h3 => by omega)
          have nX0 : ∀ z, w.heap.size ≤ z → ¬ X0 z := fun z h1 hz => by have := hX z hz; omega
          refine (vrelinkC x n l g o c z3 z4 z5 y4 f caps (fun m W' => ∃ M2 F2, TR most M1 H1 P1 L2 q m M2 ∧ RnY W5 W' x.b most M2 F1 X0 F2) W5 ⟨b3', b4', b5'⟩ hnb ⟨by omega, by omega, by omega⟩ hcap (by omega) (fun W6 A1 c1 hb6 hA1 hc1 => ?_)).mono ?_
          · have hrn6 : Rn w W6 x.b most M1 F F1 := ⟨rnw.ar.below hb6, rnw.kp.trans (Kp.of_below hb6 (fun _ => False)) (fun _ h => h.elim), rnw.sub⟩
            have hnl6 : NL W6 A1 l ∧ ∀ a, A1 = some a → l ≠ [] → ¬ F1 a.block ∧ ¬ X0 a.block := by
              rcases hA1 with rfl | ⟨h0, rfl⟩
              · exact ⟨hnl2.kp hrn6.kp (fun a e _ => by cases e; exact hAg'.1), fun a e _ => by cases e; exact ⟨fun hz => (hF1 g hz).elim hAg'.1 (fun h3 => by omega), hAg'.2⟩⟩
              · have e := List.eq_nil_of_length_eq_zero h0
                exact ⟨by rw [e]; exact NL.nil _ _, fun _ _ hne => absurd e hne⟩
            refine (hrest W6 M1 H1 P1 F1 A1 c1 hrn6 hb2 hP1b (fun h0 => hka _ (kidN_mem n s) h0) hoth (by omega) hnl6.1 hc1 hnl6.2).mono ?_
            rintro e W' ⟨m, M2, rfl, hT, hS⟩
            have hs6 := hb6.size
            refine ⟨m, FX F1 X0, rfl, ⟨M2, Fn F1 W6 W', hT, hS.ar, (Kp.of_below hb6 (FX F1 X0)).trans hS.kp (fun _ => .inl), fun z hz => hz.imp id (fun hz => by omega)⟩, hS.kp, fun hz => hz.elim (nF1 _ g3 (by omega)) (nX0 _ g3), fun hz => hz.elim (nF1 _ g4 (by omega)) (nX0 _ g4), fun hz => hz.elim (nF1 _ g5 (by omega)) (nX0 _ g5), fun hz => hz.elim (nF1 _ (by omega) l4y) (nX0 _ (by omega))⟩
          · rintro e W' ⟨r, m, Wm, rfl, ⟨M2, F2, hT, hR⟩, hnb2, rfl⟩
            rw [← hs]
            have kz : Kp (fun z => z = y4) Wm (Wm.setCell ⟨y4, 11 + s, none⟩ (.int .i64 (m : Nat))) := (Kp.refl (fun z => z = y4) Wm).setCell (.inl rfl) _
            have hnF2 : ¬ F2 y4 := fun hz => (hR.sub y4 hz).elim (nF1 _ (by omega) l4y) (fun h3 => by have := hRn.kp.size; omega)
            refine ⟨r, setK n s m, M2, F2, rfl, hnb2.setK hs01 m, ⟨hR.ar.kp kz (fun z hz e => hnF2 (e ▸ hz)), (hR.kp.fx (fun z hz => hz.imp id (fun hz => by rw [hXe]; exact .inl hz)) : Kp (FX F1 X) W5 Wm).trans kz (fun z e => .inl (.inr (by rw [hXe]; exact .inr e))), hR.sub⟩, m, rfl, hT⟩
        · rintro c' M2 _ ⟨n', ⟨m, rfl, hT⟩, hv, hk⟩
          rw [(setK_kv n s m).1, (setK_kv n s m).2] at hv
          refine ⟨[], ⟨hT.bk.move (fun k' _ => by rw [List.append_nil, hk, setK_count n s m k', hP1]; show addP P n.cell k' + _ + _ = _ + _; omega) (fun y hy => ?_), hT.keeps.less (fun k' => by rw [hP1]; exact Nat.le_add_right _ _), hT.holes, hT.live, by rw [hv]; exact (by decide : 2 ≤ 4194304), by rw [hk]; exact (by decide : 2 ≤ 64), Nat.zero_le _, rfl, m, hT, hv, hk⟩⟩
          rcases hw1.way with ⟨_, _, e⟩ | ⟨_, _, e⟩
          · rw [e] at hy
            rcases List.mem_cons.1 hy with rfl | hy
            · exact addP_self _ _
            · exact Nat.le_trans (hb.hole y hy).1 (addP_le _ _ _)
          · rw [e] at hy
            exact Nat.le_trans (hb.hole y hy).1 (addP_le _ _ _)
      · rintro e W' ⟨m, M', rfl, hst, M1, H1, ex, c', M2, hw1, ⟨rfl, m2, hT, hv, hk⟩, hren⟩
        have hmH := (hren.bk.hand (i := m) (by simp) (by have := hren.pos; omega)).2
        have hnd : NdC (blank M' H) m { c' with owner := x.ow } 1 n.key n.val (setK n s m2).kx (setK n s m2).ky := ⟨by rw [blank_out hmH]; exact hren.cell, by have := hren.pos; omega, hv, hk⟩
        have t2 : TT (blank M' H) m2 L2 := hT.tt.pres (fun h0 => hren.kids m2 (by rw [hk]; exact (setK_mem n s m2).1) h0)
        have tO : TT (blank M' H) (kidO n s) lo := hlo.pres (fun h0 => ((hw1.kids _ (by rw [hN0.kids]; exact kidO_mem n s) h0).trans (hT.keeps _ h0 (by show 1 ≤ addP P n.cell _ + [kidO n s].count (kidO n s); simp))).trans (hren.kids _ (by rw [hk]; exact (setK_mem n s m2).2) h0))
        have htt : TT (blank M' H) m (sideL s (n.key, n.val) lo L2) := by
          rcases hs01 with e | e
          · subst e
            exact .node hnd t2 tO hsrt
          · subst e
            exact .node hnd tO t2 hsrt
        have hlv := hren.live
        have k0 : Kp (FX F X0) W W' := (Kp.of_below hW2 (FX F X0)).trans hst.kp (fun z hz => hz.elim (fun hz => .inl (.inl hz)) (fun hz => by rw [hXe] at hz; exact hz.elim (fun hz => .inl (.inr hz)) (fun e => .inr (by omega))))
        have hif : (if aloneB M n.cell x.ow = true then 0 else 1) ≤ 1 := by split <;> decide
        have htr : TR most M H P (sideL s (n.key, n.val) lo L2) (1 + q) m M' := ⟨hren.bk, hren.keeps, hren.holes, by omega, htt⟩
        have har : Ar W' x.b most M' (Fn F w W') := hst.ar.mono (fun z hz => hz.imp id (fun hz => ⟨by omega, hz.2⟩)) (fun z hz => hz.elim (fun hz => by have := hF z hz; have := hst.kp.size; omega) (fun hz => hz.2))
        exact ⟨_, rfl, m, M', rfl, htr, ⟨har, (Kp.of_below hW (FX F X0)).trans k0 (fun _ => .inl)⟩, k0⟩
    · rintro e W' ⟨v, rfl, m, M', rfl, hT, hS, hK⟩
      have nX0 : ∀ z, w.heap.size ≤ z → ¬ FX F X0 z := fun z h1 hz => hz.elim (fun hz => by have := hF z hz; omega) (fun hz => by have := hX z hz; omega)
      exact ⟨_, FX F X0, rfl, ⟨m, M', rfl, hT, hS⟩, hK, nX0 _ g3, nX0 _ g4, fun g' o' e => by cases e; exact fun hz => hz.elim hAg'.1 hAg'.2⟩
  · rintro e w' ⟨v, rfl, m, M', rfl, hT, hS⟩
    exact ⟨m, M', rfl, hT, hS⟩
set_option maxHeartbeats 8000000 in
theorem vrelink_bk (x : Yv) (f : FuncId) (caps : Array Value) (q0 : Nat) (ln : List Pr) (x' y' : Nat) (lx' ly' : List Pr) (hm : most ≤ 1048576) (K : Nat) (hK : K ≤ 1152921504606846976) (hfe : ∀ (args : Array Value) (W : World), (callFunc f args).run Tryz.prog W = .ok (.enter f args) W) :
    ∀ (cl : List Nv) (A : Option Addr) (c rx ry : Nat) (lx ly pre suf : List Pr) (M : Cells) (H : List Nat) (P : Nat → Nat) (F : Nat → Prop) (w : World), Ar w x.b most M F → (∀ z, X0 z → z < w.heap.size) → Bk (most + 1) M H P [rx, ry] → (∀ j, P j + 64 * cl.length ≤ K) → Ch (blank M H) x.key cl rx ry lx ly x' y' lx' ly' pre suf → Srt h0 (pre ++ ln ++ suf) → cl.length ≤ c → cl.length ≤ 1100 → NL w A cl → (∀ a, A = some a → cl ≠ [] → ¬ F a.block ∧ ¬ X0 a.block) → live (most + 1) M + (cl.length + q0) ≤ most →
      (∀ (W : World) (M1 : Cells) (H1 : List Nat) (P1 : Nat → Nat) (F1 : Nat → Prop), Rn w W x.b most M1 F F1 → Bk (most + 1) M1 H1 P1 [x', y'] → (∀ j, P1 j ≤ K) → (x' ≠ 0 → Pres (blank M H) (blank M1 H1) x') → (y' ≠ 0 → Pres (blank M H) (blank M1 H1) y') → live (most + 1) M1 + q0 ≤ most →
        Calls Tryz.prog f caps W fun e W' => ∃ (n2 : Nat) (M2 : Cells), e = .returned (.int .i64 (n2 : Nat)) ∧ TR most M1 H1 P1 ln q0 n2 M2 ∧ StpX W W' x.b most M2 F1 X0) →
      Calls Tryz.prog 115 #[yagg x, .slice A cl.length c, .func (.func f) #[] caps] w fun e w' => ∃ (m : Nat) (M' : Cells), e = .returned (.int .i64 (m : Nat)) ∧ TR most M H P (pre ++ ln ++ suf) (cl.length + q0) m M' ∧ StpX w w' x.b most M' F X0 := by
  intro cl
  induction cl with
  | nil =>
    intro A c rx ry lx ly pre suf M H P F w h hX hb hP hCh hsrt hcap hlen hnl hAg hroom hend
    cases hCh with
    | nil hx hy =>
      have hF : ∀ q, F q → q < w.heap.size := fun q hq => h.lt hq
      refine (vrelink_nil x A c f caps (fun v w' => ∃ (m : Nat) (M' : Cells), v = .int .i64 (m : Nat) ∧ TR most M H P ([] ++ ln ++ []) (0 + q0) m M' ∧ StpX w w' x.b most M' F X0) w hfe (fun W hW => ?_)).mono ?_
      · refine (hend W M H P F ⟨h.below hW, Kp.of_below hW F, fun _ => .inl⟩ hb (fun j => by have := hP j; simpa using this) (fun _ => Pres.refl _ _) (fun _ => Pres.refl _ _) (by simpa using hroom)).mono ?_
        rintro e W' ⟨n2, M2, rfl, hT, hS⟩
        refine ⟨_, rfl, n2, M2, rfl, ?_, ⟨hS.ar.mono (fun z hz => hz.imp id (fun hz => ⟨Nat.le_trans hW.size hz.1, hz.2⟩)) (fun z hz => hz.elim (fun hz => by have := hF z hz; have := hS.kp.size; have := hW.size; omega) (fun hz => hz.2)), (Kp.of_below hW (FX F X0)).trans hS.kp (fun _ => .inl)⟩⟩
        rw [List.nil_append, List.append_nil, Nat.zero_add]
        exact hT
      · rintro e w' ⟨v, rfl, m, M', rfl, hT, hS⟩
        exact ⟨m, M', rfl, hT, hS⟩
  | cons n cl ih =>
    intro A c rx ry lx ly pre suf M H P F w h hX hb hP hCh hsrt hcap hlen hnl hAg hroom hend
    cases hCh with
    | @xr _ _ _ _ _ la lb _ _ _ pre _ hn hlt ha hrec =>
      have hsd : 1 = sideN n x.key := by unfold sideN; rw [if_neg]; have h1 := h0_klt.1 hlt; have h2 := vc_swap n.key x.key; omega
      have hkn : kidN n 1 = n.ky := rfl
      have hko : kidO n 1 = n.kx := rfl
      have hb' : Bk (most + 1) M H P [n.cell, ry] := hb
      have hLe : (la ++ (n.key, n.val) :: pre) ++ ln ++ suf = sideL 1 (n.key, n.val) la (pre ++ ln ++ suf) := by simp [sideL]
      rw [hLe] at hsrt ⊢
      have hsr2 : Srt h0 (pre ++ ln ++ suf) := by
        refine List.Pairwise.sublist ?_ hsrt
        exact (List.sublist_cons_self _ _).trans (List.sublist_append_right _ _)
      rw [show (n :: cl).length + q0 = 1 + (cl.length + q0) by rw [List.length_cons]; omega]
      refine vrelink_step x n cl A c ry 1 (cl.length + q0) f caps la (pre ++ ln ++ suf) w h hm hX hb' (fun j => by have := hP j; rw [List.length_cons] at this; omega) hsd hn (by rw [hko]; exact ha) hsrt hcap (by rw [List.length_cons] at hlen; omega) hnl (fun a e => hAg a e (by simp)) (by rw [List.length_cons] at hroom; omega) (fun W M1 H1 P1 F1 A1 c1 r1 r2 r3 r4 r5 r6 r7 r8 r9 => ?_)
      rw [hkn] at r2 r4
      have hc2 := hrec.pres (M' := blank M1 H1) r4 r5
      have hpe := hrec.presEnd (M' := blank M1 H1) r4 r5
      refine ih A1 c1 n.ky ry lb ly pre suf M1 H1 P1 F1 W r1.ar (fun z hz => Nat.lt_of_lt_of_le (hX z hz) r1.kp.size) r2 (fun j => by have := r3 j; have := hP j; rw [List.length_cons] at this; omega) hc2 hsr2 r8 (by rw [List.length_cons] at hlen; omega) r7 r9 (by omega) (fun W2 M2 H2 P2 F2 t1 t2 t3 t4 t5 t6 => ?_)
      exact hend W2 M2 H2 P2 F2 (r1.trans t1) t2 t3 (fun h0 => (hpe.1 h0).trans (t4 h0)) (fun h0 => (hpe.2 h0).trans (t5 h0)) t6
    | @xl _ _ _ _ la lb _ _ _ suf hn hgt hb1 hrec =>
      have hsd : 0 = sideN n x.key := by unfold sideN; rw [if_pos]; have h1 := h0_klt.1 hgt; omega
      have hkn : kidN n 0 = n.kx := rfl
      have hko : kidO n 0 = n.ky := rfl
      have hb' : Bk (most + 1) M H P [n.cell, 0] := hb
      have hLe : pre ++ ln ++ (suf ++ (n.key, n.val) :: lb) = sideL 0 (n.key, n.val) lb (pre ++ ln ++ suf) := by simp [sideL]
      rw [hLe] at hsrt ⊢
      have hsr2 : Srt h0 (pre ++ ln ++ suf) := by
        refine List.Pairwise.sublist ?_ hsrt
        exact List.sublist_append_left _ _
      rw [show (n :: cl).length + q0 = 1 + (cl.length + q0) by rw [List.length_cons]; omega]
      refine vrelink_step x n cl A c 0 0 (cl.length + q0) f caps lb (pre ++ ln ++ suf) w h hm hX hb' (fun j => by have := hP j; rw [List.length_cons] at this; omega) hsd hn (by rw [hko]; exact hb1) hsrt hcap (by rw [List.length_cons] at hlen; omega) hnl (fun a e => hAg a e (by simp)) (by rw [List.length_cons] at hroom; omega) (fun W M1 H1 P1 F1 A1 c1 r1 r2 r3 r4 r5 r6 r7 r8 r9 => ?_)
      rw [hkn] at r2 r4
      have hc2 := hrec.pres (M' := blank M1 H1) r4 r5
      have hpe := hrec.presEnd (M' := blank M1 H1) r4 r5
      refine ih A1 c1 n.kx 0 la [] pre suf M1 H1 P1 F1 W r1.ar (fun z hz => Nat.lt_of_lt_of_le (hX z hz) r1.kp.size) r2 (fun j => by have := r3 j; have := hP j; rw [List.length_cons] at this; omega) hc2 hsr2 r8 (by rw [List.length_cons] at hlen; omega) r7 r9 (by omega) (fun W2 M2 H2 P2 F2 t1 t2 t3 t4 t5 t6 => ?_)
      exact hend W2 M2 H2 P2 F2 (r1.trans t1) t2 t3 (fun h0 => (hpe.1 h0).trans (t4 h0)) (fun h0 => (hpe.2 h0).trans (t5 h0)) t6
    | @yl _ _ _ _ _ la lb _ _ _ _ suf hn hgt hb1 hrec =>
      have hsd : 0 = sideN n x.key := by unfold sideN; rw [if_pos]; have h1 := h0_klt.1 hgt; omega
      have hkn : kidN n 0 = n.kx := rfl
      have hko : kidO n 0 = n.ky := rfl
      have hb' : Bk (most + 1) M H P [n.cell, rx] := hb.perm (fun k _ => by rw [count2, count2]; omega)
      have hLe : pre ++ ln ++ (suf ++ (n.key, n.val) :: lb) = sideL 0 (n.key, n.val) lb (pre ++ ln ++ suf) := by simp [sideL]
      rw [hLe] at hsrt ⊢
      have hsr2 : Srt h0 (pre ++ ln ++ suf) := by
        refine List.Pairwise.sublist ?_ hsrt
        exact List.sublist_append_left _ _
      rw [show (n :: cl).length + q0 = 1 + (cl.length + q0) by rw [List.length_cons]; omega]
      refine vrelink_step x n cl A c rx 0 (cl.length + q0) f caps lb (pre ++ ln ++ suf) w h hm hX hb' (fun j => by have := hP j; rw [List.length_cons] at this; omega) hsd hn (by rw [hko]; exact hb1) hsrt hcap (by rw [List.length_cons] at hlen; omega) hnl (fun a e => hAg a e (by simp)) (by rw [List.length_cons] at hroom; omega) (fun W M1 H1 P1 F1 A1 c1 r1 r2 r3 r4 r5 r6 r7 r8 r9 => ?_)
      rw [hkn] at r2 r4
      have hc2 := hrec.pres (M' := blank M1 H1) r5 r4
      have hpe := hrec.presEnd (M' := blank M1 H1) r5 r4
      refine ih A1 c1 rx n.kx lx la pre suf M1 H1 P1 F1 W r1.ar (fun z hz => Nat.lt_of_lt_of_le (hX z hz) r1.kp.size) (r2.perm (fun k _ => by rw [count2, count2]; omega)) (fun j => by have := r3 j; have := hP j; rw [List.length_cons] at this; omega) hc2 hsr2 r8 (by rw [List.length_cons] at hlen; omega) r7 r9 (by omega) (fun W2 M2 H2 P2 F2 t1 t2 t3 t4 t5 t6 => ?_)
      exact hend W2 M2 H2 P2 F2 (r1.trans t1) t2 t3 (fun h0 => (hpe.1 h0).trans (t4 h0)) (fun h0 => (hpe.2 h0).trans (t5 h0)) t6
end
end Go.Proofs.YtghbbpbhbinioaaGreat

/- Several texts in one. -/
import Derived.Test.YthcpjehkjhpjfaaGreatMh25
import Derived.Test.YthcpjehkjhpjfaaGreatMh11
import Derived.Deep.RegionLaw
import Derived.Lib.SliceRun
import Derived.Test.YthcpjehkjhpjfaaGreatProg
import Derived.Test.YthcpjehkjhpjfaaGreatMh01
import Derived.OpenShut
import Derived.ShutString
import Derived.Lib.SmallJoins
import Derived.Lib.Hide
import Derived.SizedLaws
import Derived.Deep.LoopGhost
set_option linter.unusedSimpArgs false
namespace Go.Proofs.YthcpjehkjhpjfaaGreat
set_option maxRecDepth 100000
open Go.RowKit
theorem rd6 {w : World} {n : Nat} {v : Value} {l : List Pr} (h : Rd w v n (l.flatMap pcells)) {j : Nat} {p : Pr} (hp : l[j]? = some p) :
    ∃ g o c, v = .slice (some ⟨g, o, none⟩) n c ∧ w.cell? ⟨g, o + j * 6, none⟩ = some (.int .u8 p.1.1) ∧ w.cell? ⟨g, o + j * 6 + 1, none⟩ = some (.int .i64 p.1.2.1) ∧ w.cell? ⟨g, o + j * 6 + 2, none⟩ = some (.string p.1.2.2) ∧ w.cell? ⟨g, o + j * 6 + 3, none⟩ = some (.int .u8 p.2.1) ∧ w.cell? ⟨g, o + j * 6 + 4, none⟩ = some (.int .i64 p.2.2.1) ∧ w.cell? ⟨g, o + j * 6 + 5, none⟩ = some (.string p.2.2.2) := by
  have cel : ∀ t u, t < 6 → (pcells p)[t]? = some u → ∃ g o c, v = .slice (some ⟨g, o, none⟩) n c ∧ w.cell? ⟨g, o + j * 6 + t, none⟩ = some u := fun t u ht hu => by
    obtain ⟨g, o, c', e, _, kc⟩ := h.at ((pflat_get l j p hp t ht).trans hu)
    exact ⟨g, o, c', e, by rw [Nat.add_assoc]; exact kc⟩
  obtain ⟨g, o, c, rfl, k0⟩ := cel 0 _ (by decide) rfl
  obtain ⟨g1, o1, _, e1, k1⟩ := cel 1 _ (by decide) rfl
  obtain ⟨g2, o2, _, e2, k2⟩ := cel 2 _ (by decide) rfl
  obtain ⟨g3, o3, _, e3, k3⟩ := cel 3 _ (by decide) rfl
  obtain ⟨g4, o4, _, e4, k4⟩ := cel 4 _ (by decide) rfl
  obtain ⟨g5, o5, _, e5, k5⟩ := cel 5 _ (by decide) rfl
  simp only [Value.slice.injEq, Option.some.injEq, Addr.mk.injEq, and_true, true_and] at e1 e2 e3 e4 e5
  obtain ⟨⟨rfl, rfl⟩, -⟩ := e1
  obtain ⟨⟨rfl, rfl⟩, -⟩ := e2
  obtain ⟨⟨rfl, rfl⟩, -⟩ := e3
  obtain ⟨⟨rfl, rfl⟩, -⟩ := e4
  obtain ⟨⟨rfl, rfl⟩, -⟩ := e5
  exact ⟨g, o, c, rfl, k0, k1, k2, k3, k4, k5⟩
section
set_option maxHeartbeats 1600000 in
theorem rsame (l : List Pr) (v1 v2 : Value) (w : World) (h1 : Rd w v1 l.length (l.flatMap pcells)) (h2 : Rd w v2 l.length (l.flatMap pcells)) (hl : l.length ≤ 1000000) :
    Calls Tryz.prog 85 #[v1, v2] w fun e w' => e = .returned (.bool true) ∧ Below w.heap.size w w' := by
  obtain ⟨A1, c1, rfl, hc1⟩ := h1.form
  obtain ⟨A2, c2, rfl, hc2⟩ := h2.form
  have H1 := Lib.hid h1
  have H2 := Lib.hid h2
  clear h1 h2
  go_enter Tryz.func85, Tryz.ntmps85
  go_wp2_with fail
  go_loopg [5] l.length (fun c' i wr => ∃ j : Nat, j + c' = l.length ∧ i = .int .i64 j ∧ Below w.heap.size w wr)
  case atStart => exact ⟨0, by omega, rfl, Below.refl _ _⟩
  case round =>
    obtain ⟨j, hj, rfl, hb⟩ := hrel
    by_cases hlt : j < l.length
    · obtain ⟨x, hx⟩ : ∃ x, l[j]? = some x := ⟨_, List.getElem?_eq_getElem hlt⟩
      obtain ⟨g1, o1, _, e1, x0, x1, x2, x3, x4, x5⟩ := rd6 (H1.out.below hb) hx
      obtain ⟨g2, o2, _, e2, y0, y1, y2, y3, y4, y5⟩ := rd6 (H2.out.below hb) hx
      simp only [Value.slice.injEq, true_and] at e1 e2
      obtain ⟨rfl, rfl⟩ := e1
      obtain ⟨rfl, rfl⟩ := e2
      have HB := Lib.hid hb
      have HJ := Lib.hid (And.intro hj hlt)
      have z3 : (0 : Int) ≤ (j : Int) := by omega
      have z4 : (j : Int) < (l.length : Int) := by omega
      clear hb hx hj
      go_wp2_with fail
      go_quiet (fail)
      go_wp2_with fail
      go_roundg (l.length - (j + 1))
      case measure => have := HJ.out; omega
      case rel => exact ⟨j + 1, by have := HJ.out; omega, by go_num, HB.out.trans ((below_drewN _ _).mono HB.out.size)⟩
    · obtain rfl : j = l.length := by omega
      have HB := Lib.hid hb
      clear hb
      go_wp2_with fail
      go_ret
      exact ⟨rfl, HB.out⟩
set_option maxHeartbeats 1600000 in
theorem lof8 (k : Ky) (w : World) : Calls Tryz.prog 78 #[vv k.1 k.2.1 k.2.2] w fun e w' => e = .returned (vv k.1 k.2.1 k.2.2) ∧ Below w.heap.size w w' := by
  go_enter Tryz.func78, Tryz.ntmps78
  go_wp2_with fail
  refine bodyPost_ret (v := vv k.1 k.2.1 k.2.2) (by simp [results, Tryz.results78, go_sem, vv]) rfl ⟨rfl, ?_⟩
  exact ((Below.refl _ w).alloc (Nat.le_refl _) _).alloc (by simp) _
set_option maxHeartbeats 1600000 in
theorem lpair (p : Pr) (w : World) : Calls Tryz.prog 83 #[.agg #[.int .u8 p.1.1, .int .i64 p.1.2.1, .string p.1.2.2, .int .u8 p.2.1, .int .i64 p.2.2.1, .string p.2.2.2]] w fun e w' => e = .returned (.agg #[.int .u8 p.1.1, .int .i64 p.1.2.1, .string p.1.2.2, .int .u8 p.2.1, .int .i64 p.2.2.1, .string p.2.2.2]) ∧ Below w.heap.size w w' := by
  go_enter Tryz.func83, Tryz.ntmps83
  obtain ⟨⟨pk, pn, ps⟩, qk, qn, qs⟩ := p
  simp only
  obtain ⟨W0, hW0⟩ : ∃ W0, W0 = (w.alloc (.cells #[.int .u8 pk, .int .i64 pn, .string ps, .int .u8 qk, .int .i64 qn, .string qs] 64)).alloc (.cells #[.int .u8 0, .int .i64 0, .string ⟨#[]⟩, .int .u8 0, .int .i64 0, .string ⟨#[]⟩] 78) := ⟨_, rfl⟩
  have bW : Below w.heap.size w W0 := by rw [hW0]; exact ((Below.refl _ w).alloc (Nat.le_refl _) _).alloc (by simp) _
  have kW : C6 W0 w.heap.size 64 (.int .u8 pk) (.int .i64 pn) (.string ps) (.int .u8 qk) (.int .i64 qn) (.string qs) := by rw [hW0]; exact (C6.new w _ _ _ _ _ _ _).alloc _
  have jW : C6 W0 (w.heap.size + 1) 78 (.int .u8 0) (.int .i64 0) (.string ⟨#[]⟩) (.int .u8 0) (.int .i64 0) (.string ⟨#[]⟩) := by
    have h := C6.new (w.alloc (.cells #[.int .u8 pk, .int .i64 pn, .string ps, .int .u8 qk, .int .i64 qn, .string qs] 64)) 78 (.int .u8 0) (.int .i64 0) (.string ⟨#[]⟩) (.int .u8 0) (.int .i64 0) (.string ⟨#[]⟩)
    rw [hW0]
    simpa using h
  go_upto_region 1 with fail
  rw [← hW0]
  have l0 : ∀ W, C6 W w.heap.size 64 (.int .u8 pk) (.int .i64 pn) (.string ps) (.int .u8 qk) (.int .i64 qn) (.string qs) → W.cell? ⟨w.heap.size, 0, none⟩ = some (.int .u8 pk) := fun W h => h.all.1
  have l1 : ∀ W, C6 W w.heap.size 64 (.int .u8 pk) (.int .i64 pn) (.string ps) (.int .u8 qk) (.int .i64 qn) (.string qs) → W.cell? ⟨w.heap.size, 1, none⟩ = some (.int .i64 pn) := fun W h => h.all.2.1
  have l2 : ∀ W, C6 W w.heap.size 64 (.int .u8 pk) (.int .i64 pn) (.string ps) (.int .u8 qk) (.int .i64 qn) (.string qs) → W.cell? ⟨w.heap.size, 2, none⟩ = some (.string ps) := fun W h => h.all.2.2.1
  have l3 : ∀ W, C6 W w.heap.size 64 (.int .u8 pk) (.int .i64 pn) (.string ps) (.int .u8 qk) (.int .i64 qn) (.string qs) → W.cell? ⟨w.heap.size, 3, none⟩ = some (.int .u8 qk) := fun W h => h.all.2.2.2.1
  have l4 : ∀ W, C6 W w.heap.size 64 (.int .u8 pk) (.int .i64 pn) (.string ps) (.int .u8 qk) (.int .i64 qn) (.string qs) → W.cell? ⟨w.heap.size, 4, none⟩ = some (.int .i64 qn) := fun W h => h.all.2.2.2.2.1
  have l5 : ∀ W, C6 W w.heap.size 64 (.int .u8 pk) (.int .i64 pn) (.string ps) (.int .u8 qk) (.int .i64 qn) (.string qs) → W.cell? ⟨w.heap.size, 5, none⟩ = some (.string qs) := fun W h => h.all.2.2.2.2.2.1
  refine wp_region_noPanic ?_
  refine wp_region_held_drew (S := fun W => C6 W w.heap.size 64 (.int .u8 pk) (.int .i64 pn) (.string ps) (.int .u8 qk) (.int .i64 qn) (.string qs)) (by kernel_rfl) (kW.below (Below.refl _ W0).drew) (fun hH => ?_)
  have kW1 := kW.below (Below.refl _ W0).drew
  have jW1 := jW.below (Below.refl _ W0).drew
  have bW1 := bW.trans ((Below.refl _ W0).drew.mono bW.size)
  generalize W0.drew = W1 at kW1 jW1 bW1 hH ⊢
  clear hW0 kW jW bW
  refine tkH ?_ 0 hH ?_ ?_; rotate_left
  · intro W' hS; go_simp; with_reducible rfl
  simp only [tkr]
  refine tkH ?_ 1 hH ?_ ?_; rotate_left
  · intro W' hS; go_simp; with_reducible rfl
  simp only [tkr]
  refine tkH ?_ 3 hH ?_ ?_; rotate_left
  · intro W' hS; go_simp; with_reducible rfl
  simp only [tkr]
  refine tkH ?_ 4 hH ?_ ?_; rotate_left
  · intro W' hS; go_simp; with_reducible rfl
  simp only [tkr]
  refine rdH 2 rfl (fun K hK => ?_)
  go_simp
  refine (lof8 (pk, pn, ps) W1).mono ?_
  rintro e W2 ⟨rfl, hb4⟩
  have kW2 := kW1.below hb4
  have jW2 := jW1.below hb4
  have bW2 := bW1.trans (hb4.mono bW1.size)
  clear hb4
  simp only
  refine hK.out _ _ ?_ (fun hH => ?_)
  · exact kW2
  clear hK K
  refine rdH 5 rfl (fun K hK => ?_)
  go_simp
  refine (lof8 (qk, qn, qs) W2).mono ?_
  rintro e W3 ⟨rfl, hb4⟩
  have kW3 := kW2.below hb4
  have jW3 := jW2.below hb4
  have bW3 := bW2.trans (hb4.mono bW2.size)
  clear hb4
  simp only
  refine hK.out _ _ ?_ (fun hH => ?_)
  · exact kW3
  clear hK K
  refine tkH ?_ 6 hH ?_ ?_; rotate_left
  · intro W' hS; go_simp; with_reducible rfl
  simp only [tkr]
  refine rdH 7 rfl (fun K hK => ?_)
  obtain ⟨m0, m1, m2, m3, m4, m5, g0, g1, g2, g3, g4, g5⟩ := jW3.all
  go_simp
  clear m0 m1 m2 m3 m4 m5 g0 g1 g2 g3 g4 g5
  have jW4 := ((((((jW3.set0 (.int .u8 pk)).set1 (.int .i64 pn)).set2 (.string ps)).set3 (.int .u8 qk)).set4 (.int .i64 qn)).set5 (.string qs))
  have kW4 := ((((((kW3.other (g := w.heap.size + 1) (o := 0) (by omega) (.int .u8 pk)).other (g := w.heap.size + 1) (o := 1) (by omega) (.int .i64 pn)).other (g := w.heap.size + 1) (o := 2) (by omega) (.string ps)).other (g := w.heap.size + 1) (o := 3) (by omega) (.int .u8 qk)).other (g := w.heap.size + 1) (o := 4) (by omega) (.int .i64 qn)).other (g := w.heap.size + 1) (o := 5) (by omega) (.string qs))
  have bW4 := ((((((bW3.setCell (p := ⟨w.heap.size + 1, 0, none⟩) (by simp) (.int .u8 pk)).setCell (p := ⟨w.heap.size + 1, 1, none⟩) (by simp) (.int .i64 pn)).setCell (p := ⟨w.heap.size + 1, 2, none⟩) (by simp) (.string ps)).setCell (p := ⟨w.heap.size + 1, 3, none⟩) (by simp) (.int .u8 qk)).setCell (p := ⟨w.heap.size + 1, 4, none⟩) (by simp) (.int .i64 qn)).setCell (p := ⟨w.heap.size + 1, 5, none⟩) (by simp) (.string qs))
  generalize ((((((W3.setCell ⟨w.heap.size + 1, 0, none⟩ (.int .u8 pk)).setCell ⟨w.heap.size + 1, 1, none⟩ (.int .i64 pn)).setCell ⟨w.heap.size + 1, 2, none⟩ (.string ps)).setCell ⟨w.heap.size + 1, 3, none⟩ (.int .u8 qk)).setCell ⟨w.heap.size + 1, 4, none⟩ (.int .i64 qn)).setCell ⟨w.heap.size + 1, 5, none⟩ (.string qs)) = W4 at jW4 kW4 bW4 ⊢
  refine hK.out _ _ ?_ (fun hH => ?_)
  · exact kW4
  clear hK K
  refine wpAnyH_done (by kernel_rfl) ?_ _
  refine NoPanic.normal ?_
  obtain ⟨m0, m1, m2, m3, m4, m5, _⟩ := jW4.all
  go_wp2_with fail
  refine bodyPost_ret (v := .agg #[.int .u8 pk, .int .i64 pn, .string ps, .int .u8 qk, .int .i64 qn, .string qs]) (by simp [results, Tryz.results83, go_sem, m0, m1, m2, m3, m4, m5]) rfl ⟨rfl, bW4⟩
end
end Go.Proofs.YthcpjehkjhpjfaaGreat

namespace Go.Proofs.YthcpjehkjhpjfaaGreat
open Go.RowKit

structure En where
  root : Nat
  l : List Pr
  s : Value
  ow : Int
abbrev eagg (e : En) : Value := .agg #[.int .i64 (e.l.length : Int), .int .i64 (e.root : Int), e.s, .int .u32 e.ow]
def cells4 (e : En) : List Value := [.int .i64 (e.l.length : Int), .int .i64 (e.root : Int), e.s, .int .u32 e.ow]
theorem flat4_length (E : List En) : (E.flatMap cells4).length = E.length * 4 := by
  induction E with
  | nil => rfl
  | cons e E ih => rw [List.flatMap_cons, List.length_append, ih, List.length_cons]; show 4 + _ = _; omega

theorem oinfo : (Tryz.prog.info? 37).map (fun i => (i.zero, i.size, i.bytes)) = some (some (.agg #[.int .i64 0, .int .i64 0, .slice none 0 0, .int .u32 0]), 4, 48) := by kernel_rfl
theorem flat4_erase (E : List En) (k : Nat) (hk : k < E.length) (ys : List Value) (hy : ∀ j, j < (E.length - 1) * 4 → ys[j]? = if j < k * 4 then (E.flatMap cells4)[j]? else ((E.drop (k + 1)).flatMap cells4)[j - k * 4]?) (hyl : (E.length - 1) * 4 ≤ ys.length) : ys.take ((E.length - 1) * 4) = (E.eraseIdx k).flatMap cells4 := by
  have he : E.eraseIdx k = E.take k ++ E.drop (k + 1) := by rw [List.eraseIdx_eq_take_drop_succ]
  rw [he, List.flatMap_append]
  have l1 : ((E.take k).flatMap cells4).length = k * 4 := by rw [flat4_length, List.length_take, Nat.min_eq_left (by omega)]
  have l2 : ((E.drop (k + 1)).flatMap cells4).length = (E.length - (k + 1)) * 4 := by rw [flat4_length, List.length_drop]
  apply List.ext_getElem?
  intro j
  by_cases hj : j < (E.length - 1) * 4
  · rw [List.getElem?_take_of_lt hj, hy j hj]
    by_cases h1 : j < k * 4
    · rw [if_pos h1, List.getElem?_append_left (by omega)]
      have e2 : E.flatMap cells4 = (E.take k).flatMap cells4 ++ (E.drop k).flatMap cells4 := by rw [← List.flatMap_append, List.take_append_drop]
      rw [e2, List.getElem?_append_left (by omega)]
    · rw [if_neg h1, List.getElem?_append_right (by omega), l1]
  · rw [List.getElem?_eq_none (by rw [List.length_take]; omega), List.getElem?_eq_none (by rw [List.length_append, l1, l2]; omega)]
theorem run_clear_one {P : Program} (w : World) (t e ty : TypeId) (z : Value) (zs : List Value) (ht : P.underlying t = some (.slice e)) (hv : ∀ w, (zeroValue e).run P w = .ok z w) (hz : z.cells.toList = zs) (h1 : ∀ u ∈ zs, u.oneCell' = true) (b o c : Nat)
    (hc : ∀ j, j < zs.length → (w.cell? ⟨b, o + j, none⟩).isSome = true) (hf : ∀ j, j < zs.length → w.frozen? ⟨b, o + j, none⟩ = false) :
    (Builtin.clear_ #[t] ty #[.slice (some ⟨b, o, none⟩) 1 c]).run P w = .ok (.tuple #[]) (w.setCells b o zs) := by
  have hzc : (Builtin.zeroCells z.cells 1).toList = zs := by
    rw [← hz]
    apply List.ext_getElem
    · simp [Builtin.zeroCells]
    · intro i h1 h2
      have h3 : i < z.cells.size := by simpa using h2
      simp [Builtin.zeroCells, Nat.mod_eq_of_lt h3]
      exact getElem!_pos z.cells i h3
  have hst := run_storeCells_cells (P := P) b o zs 0 w (by simpa using hc) (by simpa using hf) (fun v hv' => h1 v hv')
  simp only [Nat.add_zero] at hst
  simp [Builtin.clear_, run_underlying ht, hv, hzc, hst]
theorem ozero (w : World) : (zeroValue 37).run Tryz.prog w = .ok (.agg #[.int .i64 0, .int .i64 0, .slice none 0 0, .int .u32 0]) w := by kernel_rfl
set_option maxRecDepth 100000 in
set_option maxHeartbeats 1600000 in
theorem delete_one (g cp k base : Nat) (E : List En) (w : World) (h : w.ownsRow base 37 4 (.slice (some ⟨g, 0, none⟩) E.length cp) E.length (E.flatMap cells4)) (hk : k < E.length) (hE : E.length ≤ 1000) (hs : ∀ e ∈ E, e.s.oneCell' = true) :
    Calls Tryz.prog 82 #[.slice (some ⟨g, 0, none⟩) E.length cp, .int .i64 k, .int .i64 ((k : Int) + 1)] w fun x w' => x = .returned (.slice (some ⟨g, 0, none⟩) (E.length - 1 : Nat) cp) ∧
      w'.ownsRow base 37 4 (.slice (some ⟨g, 0, none⟩) (E.length - 1) cp) (E.length - 1) ((E.eraseIdx k).flatMap cells4) ∧ Kp (fun q => q = g) w w' := by
  obtain ⟨i1, hi1, hy0, hy1, hy2⟩ := info_parts oinfo
  have hcp : E.length ≤ cp ∧ cp ≤ maxLen := by
    rcases h.2 with ⟨e, _⟩ | ⟨g', cap, cur, e, _, _, hc, hm, _⟩
    · cases e
    · simp only [Value.slice.injEq, Option.some.injEq, Addr.mk.injEq, and_true, true_and] at e
      rw [e.2]; exact ⟨hc, hm⟩
  obtain ⟨n, hn⟩ : ∃ n, n = E.length := ⟨_, rfl⟩
  rw [← hn] at h hk hE hcp ⊢
  have HW := Lib.hid h
  have HN := Lib.hid hn
  have hkn : (k : Int) + 1 ≤ (n : Int) := by omega
  have hnc : (n : Int) ≤ (cp : Int) := by omega
  have hk1 : (k : Int) ≤ (k : Int) + 1 := by omega
  have hk0 : (0 : Int) ≤ (k : Int) := by omega
  have hcm : cp ≤ 9223372036854775807 := by have := hcp.2; unfold maxLen at this; omega
  have hne : ¬ (k : Int) = (k : Int) + 1 := by omega
  have hneb : ((k : Int) == (k : Int) + 1) = false := by simpa using hne
  clear h hn
  go_enter Tryz.func82, Tryz.ntmps82
  go_wp2_with fail
  have hcell : ∀ j u, (E.flatMap cells4)[j]? = some u → w.drew.cell? ⟨g, j, none⟩ = some u ∧ w.drew.frozen? ⟨g, j, none⟩ = false := fun j u hj => by
    obtain ⟨g', c', e1, _, h1, h2⟩ := own_at HW.out (j := j) (u := u) hj
    simp only [Value.slice.injEq, Option.some.injEq, Addr.mk.injEq, and_true, true_and] at e1
    obtain ⟨rfl, _⟩ := e1
    exact ⟨h1, h2⟩
  have hfl : (E.flatMap cells4).length = n * 4 := by rw [flat4_length, HN.out]
  have hex : ∀ j, j < n * 4 → ∃ u, (E.flatMap cells4)[j]? = some u := fun j hj => ⟨_, List.getElem?_eq_getElem (by omega)⟩
  obtain ⟨news, hnews⟩ : ∃ news, news = (E.drop (k + 1)).flatMap cells4 := ⟨_, rfl⟩
  have s1 := Lib.hid (show news.length = (n - (k + 1)) * 4 by rw [hnews, flat4_length, List.length_drop, HN.out])
  have s2 := Lib.hid (show ∀ u ∈ news, u.oneCell' = true from fun u hu => by
    rw [hnews] at hu
    obtain ⟨e, he, hu⟩ := List.mem_flatMap.1 hu
    have hs' := hs e (List.mem_of_mem_drop he)
    simp only [cells4, List.mem_cons, List.not_mem_nil, or_false] at hu
    rcases hu with rfl | rfl | rfl | rfl
    · rfl
    · rfl
    · exact hs'
    · rfl)
  have s3 := Lib.hid (show ∀ j, j < news.length → (w.drew.cell? ⟨g, 0 + k * 4 + j, none⟩).isSome = true ∧ w.drew.frozen? ⟨g, 0 + k * 4 + j, none⟩ = false from fun j hj => by
    rw [s1.out] at hj
    obtain ⟨u, hu⟩ := hex (0 + k * 4 + j) (by omega)
    obtain ⟨h1, h2⟩ := hcell _ u hu
    exact ⟨by rw [h1]; rfl, h2⟩)
  have hnewsat : ∀ j, news[j]? = (E.flatMap cells4)[(k + 1) * 4 + j]? := fun j => by
    have e2 : E.flatMap cells4 = (E.take (k + 1)).flatMap cells4 ++ (E.drop (k + 1)).flatMap cells4 := by rw [← List.flatMap_append, List.take_append_drop]
    have l1 : ((E.take (k + 1)).flatMap cells4).length = (k + 1) * 4 := by rw [flat4_length, List.length_take, Nat.min_eq_left (by rw [← HN.out]; omega)]
    rw [e2, List.getElem?_append_right (by omega), l1, hnews]
    congr 1; omega
  have z1 : k ≤ cp := by omega
  have z2 : k + 1 ≤ n := by omega
  have z3 : k + 1 ≤ cp := by omega
  have z4 : (0 : Int) ≤ (k : Int) + 1 := by omega
  have z5 : k + (n - (k + 1)) = n - 1 := by omega
  -- the row behind the append, and behind clear
  obtain ⟨W2, hW2⟩ : ∃ W2, W2 = w.drew.setCells g (0 + k * 4) news := ⟨_, rfl⟩
  have hW := Lib.hid hW2
  obtain ⟨ys2, o2, l2, at2⟩ := own_sets news (0 + k * 4) w.drew _ HW.out.drew (by rw [s1.out]; omega)
  rw [← hW2] at o2
  have hkp2 : Kp (fun q => q = g) w W2 := by rw [hW2]; exact Kp.sets (F := fun q => q = g) (.inl rfl) _ _ _ (Kp.of_below (Below.refl _ w).drew _)
  obtain ⟨zs, hzs⟩ : ∃ zs : List Value, zs = [.int .i64 0, .int .i64 0, .slice none 0 0, .int .u32 0] := ⟨_, rfl⟩
  have hzl : zs.length = 4 := by rw [hzs]; rfl
  have hc2 : ∀ j, j < 4 → (W2.cell? ⟨g, (n - 1) * 4 + j, none⟩).isSome = true ∧ W2.frozen? ⟨g, (n - 1) * 4 + j, none⟩ = false := fun j hj => by
    have hl2 : ys2.length = n * 4 := by rw [l2, hfl]
    obtain ⟨g', c', e1, _, h1, h2⟩ := own_at o2 (j := (n - 1) * 4 + j) (List.getElem?_eq_getElem (by omega))
    simp only [Value.slice.injEq, Option.some.injEq, Addr.mk.injEq, and_true, true_and] at e1
    obtain ⟨rfl, _⟩ := e1
    exact ⟨by rw [h1]; rfl, h2⟩
  have hcl : ∀ ty, (Builtin.clear_ #[38] ty #[.slice (some ⟨g, (n - 1) * 4, none⟩) 1 (cp - (n - 1))]).run Tryz.prog W2 = .ok (.tuple #[]) (W2.setCells g ((n - 1) * 4) zs) := fun ty =>
    run_clear_one W2 _ _ ty _ zs Tryz.underlying38 ozero (by rw [hzs]; rfl) (fun u hu => by
      rw [hzs] at hu
      simp only [List.mem_cons, List.not_mem_nil, or_false] at hu
      rcases hu with rfl | rfl | rfl | rfl <;> rfl) g _ _ (fun j hj => (hc2 j (by omega)).1) (fun j hj => (hc2 j (by omega)).2)
  obtain ⟨ys3, o3, l3, at3⟩ := own_sets zs ((n - 1) * 4) W2 _ o2 (by rw [hzl]; omega)
  have hfin : (W2.setCells g ((n - 1) * 4) zs).ownsRow base 37 4 (.slice (some ⟨g, 0, none⟩) (n - 1) cp) (n - 1) ((E.eraseIdx k).flatMap cells4) := by
    have h1 := own_first o3 (m := n - 1) (by omega)
    have h2 := flat4_erase E k (by rw [← HN.out]; exact hk) ys3 (fun j hj => by
      rw [← HN.out] at hj
      rw [at3 j, if_neg (by omega), at2 j]
      by_cases h1 : j < k * 4
      · rw [if_neg (by omega), if_pos h1]
      · rw [if_pos (by rw [s1.out]; omega), if_neg h1, hnews]
        congr 1; omega) (by rw [← HN.out, l3, l2, hfl]; omega)
    rw [← HN.out] at h2
    rwa [h2] at h1
  have HFIN := Lib.hid hfin
  have HKP := Lib.hid (Kp.sets (F := fun q => q = g) (.inl rfl) zs ((n - 1) * 4) W2 hkp2)
  have z6 : n - (n - 1) = 1 := by omega
  have z7 : n - 1 ≤ n := by omega
  have z8 : n ≤ cp := by omega
  have z9 : ¬ cp = n - 1 := by omega
  clear hfin o3 l3 at3 hc2 hzs hzl hkp2 at2 o2 l2 hW2 hnews
  by_cases hcap : cp = k + 1
  · subst hcap
    have hcl1 : ∀ ty, (Builtin.clear_ #[38] ty #[.slice (some ⟨g, k * 4, none⟩) (n - k) 1]).run Tryz.prog W2 = .ok (.tuple #[]) (W2.setCells g ((n - 1) * 4) zs) := fun ty => by
      have h1 := hcl ty
      rw [show k + 1 - (n - 1) = 1 by omega] at h1
      rw [show n - k = 1 by omega, show k * 4 = (n - 1) * 4 by omega]
      exact h1
    clear hcl
    have hsrc := Lib.hid (show ∀ j u, news[j]? = some u → w.drew.cell? ((⟨g, 0, none⟩ : Addr).add j) = some u from fun j u hu => by
      have : news.length = 0 := by rw [s1.out]; omega
      rw [List.length_eq_zero_iff.1 this] at hu
      simp at hu)
    clear hcell hex hnewsat hfl
    go_region_law (refine step_append_room rfl (.tmp 22) (.tmp 25) 38 rfl 37 i1 4 Tryz.underlying38 hi1 hy1 g 0 k (k + 1) (by simp [Act.eval, Act.put]) ⟨g, 0, none⟩ (n - (k + 1)) (k + 1 - (k + 1)) news (by simp [Act.eval, Act.put]; omega) s1.out hsrc.out s2.out (by omega) s3.out ?_; rw [← hW.out])
    go_wp2_with fail
    go_ret
    exact ⟨by rw [show n - 1 = k by omega]; rfl, HFIN.out, HKP.out⟩
  · have hsrc := Lib.hid (show ∀ j u, news[j]? = some u → w.drew.cell? ((⟨g, (k + 1) * 4, none⟩ : Addr).add j) = some u from fun j u hu => by
      rw [hnewsat] at hu
      rw [Addr.add_lit]
      exact (hcell _ u hu).1)
    clear hcell hex hnewsat hfl
    go_region_law (refine step_append_room rfl (.tmp 22) (.tmp 25) 38 rfl 37 i1 4 Tryz.underlying38 hi1 hy1 g 0 k cp (by simp [Act.eval, Act.put]) ⟨g, (k + 1) * 4, none⟩ (n - (k + 1)) (cp - (k + 1)) news (by simp [Act.eval, Act.put]) s1.out hsrc.out s2.out (by omega) s3.out ?_; rw [← hW.out])
    go_wp2_with fail
    go_ret
    exact ⟨by rfl, HFIN.out, HKP.out⟩

end Go.Proofs.YthcpjehkjhpjfaaGreat

namespace Go.Proofs.YthcpjehkjhpjfaaGreat
open Go.ChangeShapes Go.WideShapes Go.ChangeAt Go.RowKit Go.Joins Go.Deep

structure Ac where
  kd : Int
  i : Int
  n : Int
  k : V3
  v : V3
def Ac.Fits (a : Ac) : Prop := (0 ≤ a.kd ∧ a.kd ≤ 255) ∧ ((0 ≤ a.k.1 ∧ a.k.1 ≤ 255) ∧ a.k.2.2.size ≤ 9223372036854775807) ∧ ((0 ≤ a.v.1 ∧ a.v.1 ≤ 255) ∧ a.v.2.2.size ≤ 9223372036854775807)
def AcAt (w : World) (b o : Nat) (a : Ac) : Prop :=
  w.cell? ⟨b, o, none⟩ = some (.int .u8 a.kd) ∧ w.cell? ⟨b, o + 1, none⟩ = some (.int .i64 a.i) ∧ w.cell? ⟨b, o + 2, none⟩ = some (.int .i64 a.n) ∧ w.cell? ⟨b, o + 3, none⟩ = some (.int .u8 a.k.1) ∧ w.cell? ⟨b, o + 4, none⟩ = some (.int .i64 a.k.2.1) ∧ w.cell? ⟨b, o + 5, none⟩ = some (.string a.k.2.2) ∧ w.cell? ⟨b, o + 6, none⟩ = some (.int .u8 a.v.1) ∧ w.cell? ⟨b, o + 7, none⟩ = some (.int .i64 a.v.2.1) ∧ w.cell? ⟨b, o + 8, none⟩ = some (.string a.v.2.2)
def Acts (w : World) (A : Option Addr) (l : List Ac) : Prop :=
  l = [] ∨ ∃ b o, A = some ⟨b, o, none⟩ ∧ b < w.heap.size ∧ ∀ i x, l[i]? = some x → AcAt w b (o + i * 9) x
theorem AcAt.below {w w' : World} {b o : Nat} {x : Ac} (h : AcAt w b o x) (hg : Below w.heap.size w w') (hb : b < w.heap.size) : AcAt w' b o x := by
  obtain ⟨h0, h1, h2, h3, h4, h5, h6, h7, h8⟩ := h
  exact ⟨(hg.cell (p := ⟨b, o, none⟩) hb).trans h0, (hg.cell (p := ⟨b, o + 1, none⟩) hb).trans h1, (hg.cell (p := ⟨b, o + 2, none⟩) hb).trans h2, (hg.cell (p := ⟨b, o + 3, none⟩) hb).trans h3, (hg.cell (p := ⟨b, o + 4, none⟩) hb).trans h4, (hg.cell (p := ⟨b, o + 5, none⟩) hb).trans h5, (hg.cell (p := ⟨b, o + 6, none⟩) hb).trans h6, (hg.cell (p := ⟨b, o + 7, none⟩) hb).trans h7, (hg.cell (p := ⟨b, o + 8, none⟩) hb).trans h8⟩
theorem Acts.below {w w' : World} {A : Option Addr} {l : List Ac} (h : Acts w A l) (hg : Below w.heap.size w w') : Acts w' A l := by
  rcases h with h | ⟨b, o, hA, hb, hc⟩
  · exact .inl h
  · exact .inr ⟨b, o, hA, Nat.lt_of_lt_of_le hb hg.size, fun i x hx => (hc i x hx).below hg hb⟩
theorem Acts.at {w : World} {A : Option Addr} {l : List Ac} (h : Acts w A l) {i : Nat} {x : Ac} (hi : l[i]? = some x) : ∃ b o, A = some ⟨b, o, none⟩ ∧ AcAt w b (o + i * 9) x := by
  rcases h with h | ⟨b, o, hA, _, hc⟩
  · subst h; simp at hi
  · exact ⟨b, o, hA, hc i x hi⟩

theorem acells : Tryz.prog.cellsOf 45 = 9 := by kernel_rfl
theorem cells8 : Tryz.prog.cellsOf 5 = 1 := by kernel_rfl
theorem cellsI : Tryz.prog.cellsOf 3 = 1 := by kernel_rfl

section
variable {H : Type} {enc : TypeId × Value → H} {W : World} {base : Nat} {sp : Nat → Bool} {held : Bool}
set_option maxRecDepth 20000 in
theorem elem9 {cs : List Value} {n : Nat} {x : DataW H × List MemPlace} (h : DataW.trod enc Tryz.prog W base sp held n 45 cs = some x) :
    ∃ a : Ac, cs = [.int .u8 a.kd, .int .i64 a.i, .int .i64 a.n, .int .u8 a.k.1, .int .i64 a.k.2.1, .string a.k.2.2, .int .u8 a.v.1, .int .i64 a.v.2.1, .string a.v.2.2] ∧ a.Fits := by
  obtain ⟨xs, n', _, hx, hlen, hxl, hf⟩ := DataW.trod_struct Tryz.underlying45 h
  rw [acells] at hlen
  match cs, hlen with
  | [c0, c1, c2, c3, c4, c5, c6, c7, c8], _ =>
    have hxl' : xs.length = 5 := hxl
    match xs, hxl' with
    | [y0, y1, y2, y3, y4], _ =>
      have f0 : DataW.trod enc Tryz.prog W base sp held n' 5 [c0] = some y0 := by simpa [cells8] using hf 0 _ rfl
      have f1 : DataW.trod enc Tryz.prog W base sp held n' 3 [c1] = some y1 := by simpa [cellsI] using hf 1 _ rfl
      have f2 : DataW.trod enc Tryz.prog W base sp held n' 3 [c2] = some y2 := by simpa [cellsI] using hf 2 _ rfl
      have f3 : DataW.trod enc Tryz.prog W base sp held n' 43 [c3, c4, c5] = some y3 := by simpa [vcells] using hf 3 _ rfl
      have f4 : DataW.trod enc Tryz.prog W base sp held n' 43 [c6, c7, c8] = some y4 := by simpa [vcells] using hf 4 _ rfl
      obtain ⟨a0, e0, _, w0⟩ := DataW.trod_int Tryz.underlying5 f0
      obtain ⟨a1, e1, _, _⟩ := DataW.trod_int Tryz.underlying3 f1
      obtain ⟨a2, e2, _, _⟩ := DataW.trod_int Tryz.underlying3 f2
      obtain ⟨k, m, t, e3, w3, ws⟩ := elem3 f3
      obtain ⟨k', m', t', e4, w4, ws'⟩ := elem3 f4
      simp at e0 e1 e2 e3 e4
      obtain ⟨rfl, rfl, rfl⟩ := e3
      obtain ⟨rfl, rfl, rfl⟩ := e4
      subst e0 e1 e2
      exact ⟨⟨a0, a1, a2, (k, m, t), (k', m', t')⟩, rfl, bounds_u8 w0, ⟨bounds_u8 w3, by unfold maxLen at ws; simpa using ws⟩, ⟨bounds_u8 w4, by unfold maxLen at ws'; simpa using ws'⟩⟩

set_option maxRecDepth 20000 in
theorem open_acts {v : Value} {d : DataW H} {p : List MemPlace} {r : Go.Reach} {b0 : Nat} (hv : Value.okWide Tryz.prog W r b0 23 v) (h : DataW.Trod enc Tryz.prog W 0 (fun _ => true) true 23 v d p) :
    ∃ (A : Option Addr) (l : List Ac) (c : Nat), v = .slice A l.length c ∧ Acts W A l ∧ (∀ x ∈ l, x.Fits) ∧ (l = [] ∨ ∃ es ss, d = .slice es ss ∧ es.length = l.length) := by
  obtain ⟨a, len, cap, rfl⟩ := okWide_slice Tryz.underlying23 hv
  obtain ⟨fuel, hf⟩ := h
  rcases open_slice Tryz.underlying23 hf with ⟨hcs, _⟩ | ⟨a', len', cap', m, n, D, Pl, hcs, _, hl, hm, hmm, hx, hi⟩
  · simp [Value.cells] at hcs
    obtain ⟨rfl, rfl, rfl⟩ := hcs
    exact ⟨none, [], 0, rfl, .inl rfl, by simp, .inl rfl⟩
  · simp [Value.cells] at hcs
    obtain ⟨rfl, rfl, rfl⟩ := hcs
    simp only [if_true] at hmm
    subst hmm
    have hel : ∀ i, ∃ x : Ac, i < len → (x.Fits ∧ W.cell? (a'.add (i * 9)) = some (.int .u8 x.kd) ∧ W.cell? ((a'.add (i * 9)).add 1) = some (.int .i64 x.i) ∧ W.cell? ((a'.add (i * 9)).add 2) = some (.int .i64 x.n) ∧ W.cell? ((a'.add (i * 9)).add 3) = some (.int .u8 x.k.1) ∧ W.cell? ((a'.add (i * 9)).add 4) = some (.int .i64 x.k.2.1) ∧ W.cell? ((a'.add (i * 9)).add 5) = some (.string x.k.2.2) ∧ W.cell? ((a'.add (i * 9)).add 6) = some (.int .u8 x.v.1) ∧ W.cell? ((a'.add (i * 9)).add 7) = some (.int .i64 x.v.2.1) ∧ W.cell? ((a'.add (i * 9)).add 8) = some (.string x.v.2.2)) := fun i => by
      by_cases hlt : i < len
      · obtain ⟨cs', hc, ht⟩ := hi i (by omega)
        rw [acells] at hc
        obtain ⟨_, _, hat⟩ := World.cells?_some hc
        obtain ⟨x, rfl, hw⟩ := elem9 ht
        refine ⟨x, fun _ => ⟨hw, ?_, ?_, ?_, ?_, ?_, ?_, ?_, ?_, ?_⟩⟩
        · simpa [Addr.add] using hat 0 (by omega)
        · simpa using hat 1 (by omega)
        · simpa using hat 2 (by omega)
        · simpa using hat 3 (by omega)
        · simpa using hat 4 (by omega)
        · simpa using hat 5 (by omega)
        · simpa using hat 6 (by omega)
        · simpa using hat 7 (by omega)
        · simpa using hat 8 (by omega)
      · exact ⟨⟨0, 0, 0, (0, 0, ⟨#[]⟩), (0, 0, ⟨#[]⟩)⟩, fun h => absurd h hlt⟩
    obtain ⟨f, hf'⟩ := Classical.axiomOfChoice hel
    refine ⟨some a', (List.range len).map f, m, by simp, ?_, ?_, .inr ⟨_, _, by rw [Prod.mk.injEq] at hx; exact hx.1, by simp⟩⟩
    · by_cases h0 : len = 0
      · subst h0; exact .inl rfl
      · right
        obtain ⟨b, o, spot⟩ := a'
        obtain rfl : spot = none := by simpa [Addr.add] using World.cell?_spot (hf' 0 (by omega)).2.1
        refine ⟨b, o, rfl, World.block_lt_of_cell? W ⟨b, o, none⟩ (by simpa [Addr.add] using (hf' 0 (by omega)).2.1), fun i x hx => ?_⟩
        have hi' : i < len := by
          rcases Nat.lt_or_ge i len with h | h
          · exact h
          · rw [List.getElem?_eq_none (by simpa using h)] at hx; cases hx
        simp [hi'] at hx
        subst hx
        obtain ⟨_, h0, h1, h2, h3, h4, h5, h6, h7, h8⟩ := hf' i hi'
        rw [add_plain] at h0 h1 h2 h3 h4 h5 h6 h7 h8
        rw [add_plain] at h1 h2 h3 h4 h5 h6 h7 h8
        exact ⟨h0, h1, h2, h3, h4, h5, h6, h7, h8⟩
    · intro x hx
      obtain ⟨i, hi', rfl⟩ := List.mem_map.1 hx
      exact (hf' i (List.mem_range.1 hi')).1
end

end Go.Proofs.YthcpjehkjhpjfaaGreat

namespace Go.Proofs.YthcpjehkjhpjfaaGreat
open Go.RowKit
def actB (a : Ac) : Bool := decide (a.k.2.2.size + a.v.2.2.size ≤ 60) && (rightB a.k.1 a.k.2.1 a.k.2.2 && rightB a.v.1 a.v.2.1 a.v.2.2)
def fitsB (l : List Ac) : Bool := l.all actB && decide (l.length ≤ 40)
def C9 (w : World) (b : Nat) (a : Ac) : Prop := w.heap[b]? = some (.cells #[.int .u8 a.kd, .int .i64 a.i, .int .i64 a.n, .int .u8 a.k.1, .int .i64 a.k.2.1, .string a.k.2.2, .int .u8 a.v.1, .int .i64 a.v.2.1, .string a.v.2.2] 45 (0, 0))
section
variable {w w' : World} {b : Nat} {a : Ac}
theorem C9.c0 (h : C9 w b a) : w.cell? ⟨b, 0, none⟩ = some (.int .u8 a.kd) := by simpa using cell_of_row w b 0 _ _ (0, 0) h
theorem C9.c1 (h : C9 w b a) : w.cell? ⟨b, 1, none⟩ = some (.int .i64 a.i) := by simpa using cell_of_row w b 1 _ _ (0, 0) h
theorem C9.c2 (h : C9 w b a) : w.cell? ⟨b, 2, none⟩ = some (.int .i64 a.n) := by simpa using cell_of_row w b 2 _ _ (0, 0) h
theorem C9.c3 (h : C9 w b a) : w.cell? ⟨b, 3, none⟩ = some (.int .u8 a.k.1) := by simpa using cell_of_row w b 3 _ _ (0, 0) h
theorem C9.c4 (h : C9 w b a) : w.cell? ⟨b, 4, none⟩ = some (.int .i64 a.k.2.1) := by simpa using cell_of_row w b 4 _ _ (0, 0) h
theorem C9.c5 (h : C9 w b a) : w.cell? ⟨b, 5, none⟩ = some (.string a.k.2.2) := by simpa using cell_of_row w b 5 _ _ (0, 0) h
theorem C9.c6 (h : C9 w b a) : w.cell? ⟨b, 6, none⟩ = some (.int .u8 a.v.1) := by simpa using cell_of_row w b 6 _ _ (0, 0) h
theorem C9.c7 (h : C9 w b a) : w.cell? ⟨b, 7, none⟩ = some (.int .i64 a.v.2.1) := by simpa using cell_of_row w b 7 _ _ (0, 0) h
theorem C9.c8 (h : C9 w b a) : w.cell? ⟨b, 8, none⟩ = some (.string a.v.2.2) := by simpa using cell_of_row w b 8 _ _ (0, 0) h
theorem C9.lt (h : C9 w b a) : b < w.heap.size := (Array.getElem?_eq_some_iff.1 h).1
theorem C9.below (h : C9 w b a) (hb : Below w.heap.size w w') : C9 w' b a := (hb.block b h.lt).trans h
theorem C9.new (w : World) (a : Ac) : C9 (w.alloc (.cells #[.int .u8 a.kd, .int .i64 a.i, .int .i64 a.n, .int .u8 a.k.1, .int .i64 a.k.2.1, .string a.k.2.2, .int .u8 a.v.1, .int .i64 a.v.2.1, .string a.v.2.2] 45)) w.heap.size a := heap_alloc_new w _
end
theorem fits_not {l : List Ac} {j : Nat} {a : Ac} (ha : l[j]? = some a) (h : actB a = false) : fitsB l = false := by
  unfold fitsB
  rw [Bool.and_eq_false_iff]
  refine .inl ?_
  rw [List.all_eq_false]
  exact ⟨a, List.mem_of_getElem? ha, by rw [h]; decide⟩
set_option maxRecDepth 100000 in
set_option maxHeartbeats 1600000 in
theorem vfits (A : Option Addr) (l : List Ac) (c : Nat) (w : World) (h : Acts w A l) (hf : ∀ a ∈ l, a.Fits) (hl : l.length ≤ 140737488355328) :
    Calls Tryz.prog 15 #[.slice A l.length c] w fun e w' => e = .returned (.bool (fitsB l)) ∧ Below w.heap.size w w' := by
  have HA := Lib.hid h
  have HF := Lib.hid hf
  clear h hf
  go_enter Tryz.func15, Tryz.ntmps15
  go_wp2_with fail
  go_loopg [4, 7] l.length (fun c' _ i7 wq => ∃ j : Nat, j + c' = l.length ∧ i7 = .int .i64 (j : Int) ∧ (∀ a ∈ l.take j, actB a = true) ∧ Below w.heap.size w wq)
  case atStart => exact ⟨0, by omega, rfl, by simp, Below.refl _ _⟩
  case round =>
    obtain ⟨j, hj, rfl, hall, hb⟩ := hrel
    have HB := Lib.hid hb
    have HAL := Lib.hid hall
    clear hb hall
    by_cases h1 : j < l.length
    · obtain ⟨a, ha⟩ : ∃ a, l[j]? = some a := ⟨_, List.getElem?_eq_getElem h1⟩
      obtain ⟨g, o, rfl, c0, c1, c2, c3, c4, c5, c6, c7, c8⟩ := (HA.out.below HB.out).at ha
      have y1 : (0 : Int) ≤ (j : Int) := by omega
      have y2 : (j : Int) < (l.length : Int) := by omega
      have HAA := Lib.hid ha
      have HJ := Lib.hid (And.intro hj h1)
      have HBN := Lib.hid (show Below w.heap.size w (wr.alloc (.cells #[.int .u8 a.kd, .int .i64 a.i, .int .i64 a.n, .int .u8 a.k.1, .int .i64 a.k.2.1, .string a.k.2.2, .int .u8 a.v.1, .int .i64 a.v.2.1, .string a.v.2.2] 45)) from HB.out.alloc HB.out.size _)
      have HC := Lib.hid (C9.new wr a)
      clear ha
      by_cases h60 : (60 : Int) < wrap64 ((a.k.2.2.size : Int) + (a.v.2.2.size : Int))
      · have HF0 := Lib.hid (show actB a = false from by
          unfold actB
          rw [decide_eq_false (fun h => by rw [IntWalk.wrap64_in _ (by omega)] at h60; omega), Bool.false_and])
        go_wp2_with fail
        go_ret
        exact ⟨ret_bool (fits_not HAA.out HF0.out).symm, HBN.out⟩
      · have H60 := Lib.hid h60
        go_upto_region 4 with fail
        generalize wr.alloc (.cells #[.int .u8 a.kd, .int .i64 a.i, .int .i64 a.n, .int .u8 a.k.1, .int .i64 a.k.2.1, .string a.k.2.2, .int .u8 a.v.1, .int .i64 a.v.2.1, .string a.v.2.2] 45) = w1 at HBN HC ⊢
        generalize wr.heap.size = z at HC ⊢
        have d3 := HC.out.c3
        have d4 := HC.out.c4
        have d5 := HC.out.c5
        have d8 := HC.out.c8
        clear c0 c1 c2 c3 c4 c5 c6 c7 c8
        go_wp2_with fail
        refine (lof8 a.k _).mono ?_
        rintro e w2 ⟨rfl, hb2⟩
        have HB2 := Lib.hid hb2
        clear hb2
        go_wp2_with fail
        refine (ref_right _ _ _ _).mono ?_
        rintro e w3 ⟨rfl, g3⟩
        have HB3 := Lib.hid (HB2.out.trans (g3.below.mono HB2.out.size))
        have HC3 := Lib.hid (HC.out.below HB3.out)
        have HBX := Lib.hid (HBN.out.trans (HB3.out.mono HBN.out.size))
        clear g3 d3 d4 d5 d8 HB2 HB3
        cases hkr : rightB a.k.1 a.k.2.1 a.k.2.2
        · have HF0 := Lib.hid (show actB a = false from by unfold actB; rw [hkr, Bool.false_and, Bool.and_false])
          go_wp2_with fail
          go_ret
          exact ⟨ret_bool (fits_not HAA.out HF0.out).symm, HBX.out⟩
        · have d6 := HC3.out.c6
          have d7 := HC3.out.c7
          have d8 := HC3.out.c8
          have HKR := Lib.hid hkr
          clear hkr
          go_wp2_with fail
          refine (lof8 a.v _).mono ?_
          rintro e w4 ⟨rfl, hb4⟩
          have HB4 := Lib.hid hb4
          clear hb4
          go_wp2_with fail
          refine (ref_right _ _ _ _).mono ?_
          rintro e w5 ⟨rfl, g5⟩
          have HB5 := Lib.hid (HBX.out.trans ((HB4.out.trans (g5.below.mono HB4.out.size)).mono HBX.out.size))
          clear g5 d6 d7 d8 HB4
          cases hvr : rightB a.v.1 a.v.2.1 a.v.2.2
          · have HF0 := Lib.hid (show actB a = false from by unfold actB; rw [hvr, Bool.and_false, Bool.and_false])
            go_wp2_with fail
            go_ret
            exact ⟨ret_bool (fits_not HAA.out HF0.out).symm, HB5.out⟩
          · have HF1 := Lib.hid (show actB a = true from by
              have s1 := right_small HKR.out
              have s2 := right_small hvr
              have h := H60.out
              rw [IntWalk.wrap64_in _ (by omega)] at h
              unfold actB
              rw [HKR.out, hvr, decide_eq_true (by omega)]
              rfl)
            go_wp2_with fail
            go_roundg (l.length - (j + 1))
            case measure => have := HJ.out; omega
            case rel =>
              refine ⟨j + 1, by have := HJ.out; omega, by go_num, fun y hy => ?_, HB5.out⟩
              rw [List.take_add_one, HAA.out] at hy
              rcases List.mem_append.1 hy with hy | hy
              · exact HAL.out y hy
              · obtain rfl : y = a := by simpa using hy
                exact HF1.out
    · obtain rfl : j = l.length := by omega
      have hall := HAL.out
      rw [List.take_length] at hall
      have HFF := Lib.hid (show fitsB l = decide (l.length ≤ 40) from by unfold fitsB; rw [List.all_eq_true.2 hall, Bool.true_and])
      clear hall
      go_wp2_with fail
      go_ret
      refine ⟨ret_bool ?_, HB.out⟩
      rw [HFF.out]
      by_cases h40 : l.length ≤ 40
      · rw [decide_eq_true h40]; exact decide_eq_true (by omega)
      · rw [decide_eq_false h40]; exact decide_eq_false (by omega)
end Go.Proofs.YthcpjehkjhpjfaaGreat

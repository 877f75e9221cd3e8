/- Several texts in one. -/
import Derived.Test.YtfiledbjbpkleaaGreatMs01
import Derived.Lib.AppendZerosOnto
import Derived.Lib.Overlaps
import Derived.Laws.Externs
import Derived.Shelf.Spec.SlicesInsert
import GoSem.Claim
import Derived.Laws.StructEq
namespace Go.Proofs.YtfiledbjbpkleaaGreat
open Go.RowKit

theorem ins_infoI : (Tryz.prog.info? 3).map (fun i => (i.zero, i.size, i.bytes)) = some (some (.int .i64 0), 1, 8) := by kernel_rfl
theorem ins_sizeI : ∀ w, (Go.sizeOf 3).run Tryz.prog w = .ok 1 w := fun w => by kernel_rfl
theorem ins_zerosI : ((.int .i64 0) : Value).cells.size = 1 := by kernel_rfl
set_option maxRecDepth 100000 in
theorem vinsert_endI (v y : Value) (base n m : Nat) (xs ys : List Value) (w : World) (h : w.ownsRow base 3 1 v n xs) (hm : 0 < m) (hn : n + m ≤ 100000) (hy : Rd w y m ys) (hyl : ys.length = m * 1) (h1y : ∀ u ∈ ys, u.oneCell' = true) (hB : base ≤ w.heap.size) :
    Calls Tryz.prog 208 #[v, .int .i64 n, y] w fun e w' => ∃ v', e = .returned v' ∧ w'.ownsRow base 3 1 v' (n + m) (xs ++ ys) ∧ w.grownBy w' v.ownBlock ∧ (v'.ownBlock = v.ownBlock ∨ v'.ownBlock = some w.heap.size) := by
  obtain ⟨i1, hi1, hy0, hy1, hy2⟩ := info_parts ins_infoI
  obtain ⟨Y, yc, rfl, hyc⟩ := hy.form
  have hz1 : ¬ ((m : Int) = 0) := by omega
  have HY := Lib.hid hy
  rcases h.2 with ⟨rfl, rfl⟩ | ⟨g, cap, cur, rfl, _, _, hcap, hmx, _⟩
  · have HW := Lib.hid h
    clear h hy
    go_enter Tryz.func208, Tryz.ntmps208
    go_wp2_with (at_builtin; refine wpList_append_rd rfl _ _ 67 rfl base 3 i1 _ 1 8 Tryz.underlying67 hi1 hy0 hy1 hy2 rfl (by decide) _ 0 xs rfl HW.out _ m ys rfl HY.out hyl h1y (by unfold maxLen; omega) (by omega) hB (fun v' w' k1 k2 k3 => ?_))
    all_goals (go_ret; exact ⟨v', rfl, k1, k2, k3⟩)
  · have HW := Lib.hid h
    have hcm : cap ≤ 9223372036854775807 := by unfold maxLen at hmx; omega
    clear h hy
    go_enter Tryz.func208, Tryz.ntmps208
    go_wp2_with (at_builtin; refine wpList_append_rd rfl _ _ 67 rfl base 3 i1 _ 1 8 Tryz.underlying67 hi1 hy0 hy1 hy2 rfl (by decide) _ n xs rfl HW.out _ m ys rfl HY.out hyl h1y (by unfold maxLen; omega) (by omega) hB (fun v' w' k1 k2 k3 => ?_))
    all_goals (go_ret; exact ⟨v', rfl, k1, k2, k3⟩)

set_option maxRecDepth 100000 in
set_option maxHeartbeats 1600000 in
theorem vinsert_roomI (y : Value) (base g n cp i m : Nat) (xs ys : List Value) (w : World) (h : w.ownsRow base 3 1 (.slice (some ⟨g, 0, none⟩) n cp) n xs) (hi : i < n) (hm : 0 < m) (hroom : n + m ≤ cp) (hy : w.ownsRow 0 3 1 y m ys) (hne : y.ownBlock ≠ some g) (h1x : ∀ u ∈ xs, u.oneCell' = true) (h1y : ∀ u ∈ ys, u.oneCell' = true) :
    Calls Tryz.prog 208 #[.slice (some ⟨g, 0, none⟩) n cp, .int .i64 i, y] w fun e w' => ∃ v', e = .returned v' ∧ w'.ownsRow base 3 1 v' (n + m) (xs.take (i) ++ ys ++ xs.drop (i)) ∧ w.grownBy w' (some g) ∧ (v'.ownBlock = some g ∨ v'.ownBlock = some w.heap.size) := by
  obtain ⟨i1, hi1, hy0, hy1, hy2⟩ := info_parts ins_infoI
  have hsz : (Tryz.prog.info? 3).map (·.size) = some 1 := by rw [hi1]; simp [hy1]
  obtain ⟨vb, vc, rfl⟩ : ∃ vb vc, y = .slice (some ⟨vb, 0, none⟩) m vc := by
    rcases hy.2 with ⟨_, e⟩ | ⟨vb, vc, _, e, _⟩
    · omega
    · exact ⟨vb, vc, e⟩
  have hvb : vb ≠ g := fun e => hne (by rw [e]; rfl)
  obtain ⟨hsa, hfa⟩ := own_shape hy
  obtain ⟨hsb, hfb⟩ := own_shape h
  have hcp := own_cap h
  have hxl : xs.length = n * 1 := h.1
  have hyl : ys.length = m * 1 := hy.1
  obtain ⟨zs, hmore, htake⟩ := own_more h hroom
  have hzl : zs.length = (n + m) * 1 := hmore.1
  have hzx : ∀ j, j < n * 1 → zs[j]? = xs[j]? := fun j hj => by rw [← htake, List.getElem?_take_of_lt hj]
  obtain ⟨bs, hbs⟩ : ∃ bs, bs = xs.drop (i) := ⟨_, rfl⟩
  have hbl : bs.length = (n - i) * 1 := by rw [hbs, List.length_drop, hxl]; omega
  have hov : ∀ lb cb o, (callFunc 234 #[.slice (some ⟨vb, 0, none⟩) m vc, .slice (some ⟨g, o, none⟩) lb cb]).run Tryz.prog w = .ok (.value (.bool false)) w := fun lb cb o => by
    rw [run_callFunc_extern Tryz.func234 (by kernel_rfl) (by kernel_rfl) (by kernel_rfl) (e := Extern.SlicesOverlaps.overlaps #[67, 67] #[4]) (by kernel_rfl),
      Lib.run_overlaps_apart w 67 4 3 Tryz.underlying67 1 ins_sizeI ⟨vb, 0, none⟩ ⟨g, o, none⟩ m vc lb cb hvb _ _ _ _ hsa hsb (by have := hcp.1; simp only [ne_eq, Nat.mul_eq_zero]; omega) (hfa 0) (hfa _)]
    rfl
  have hsp : ∀ (W : World) (zs' : List Value), W.ownsRow base 3 1 (.slice (some ⟨g, 0, none⟩) (n + m) cp) (n + m) zs' → ∀ k, k < (n + m) * 1 → (W.cell? ⟨g, k, none⟩).isSome = true ∧ W.frozen? ⟨g, k, none⟩ = false := fun W zs' hW k hk => by
    obtain ⟨g', c', e1, _, h1, h2⟩ := own_at hW (j := k) (List.getElem?_eq_getElem (by rw [hW.1]; exact hk))
    simp only [Value.slice.injEq, Option.some.injEq, Addr.mk.injEq, and_true, true_and] at e1
    obtain ⟨rfl, _⟩ := e1
    exact ⟨by rw [h1]; rfl, h2⟩
  have hxc : ∀ j u, xs[j]? = some u → w.cell? ⟨g, j, none⟩ = some u := fun j u hu => by
    obtain ⟨g', c', e1, _, h1, _⟩ := own_at h hu
    simp only [Value.slice.injEq, Option.some.injEq, Addr.mk.injEq, and_true, true_and] at e1
    obtain ⟨rfl, _⟩ := e1
    exact h1
  have hyc : ∀ j u, ys[j]? = some u → w.cell? ⟨vb, j, none⟩ = some u := fun j u hu => by
    obtain ⟨g', c', e1, _, h1, _⟩ := own_at hy hu
    simp only [Value.slice.injEq, Option.some.injEq, Addr.mk.injEq, and_true, true_and] at e1
    obtain ⟨rfl, _⟩ := e1
    exact h1
  have hz1 : ¬ ((m : Int) = 0) := by omega
  have hz2 : ¬ ((i : Int) = (n : Int)) := by omega
  have hw1 : IntKind.i64.wrap ((i : Int) + (m : Int)) = (i : Int) + (m : Int) := by rw [IntKind.wrap_i64]; omega
  have hw2 : IntKind.i64.wrap ((n : Int) + (m : Int)) = (n : Int) + (m : Int) := by rw [IntKind.wrap_i64]; omega
  have hb1 : (0 : Int) ≤ (i : Int) + (m : Int) := by omega
  have hin : i ≤ n := by omega
  have htn : ((i : Int) + (m : Int)).toNat = i + m := by omega
  have hb2 : ¬ (cp = i + m) := by omega
  have hb3 : (i : Int) ≤ (n : Int) + (m : Int) := by omega
  have hb4 : ¬ (cp = i) := by omega
  have hc63 := hcp.2
  obtain ⟨W1, hW1⟩ : ∃ W1, W1 = w.drew.setCells g ((i + m)) bs := ⟨_, rfl⟩
  obtain ⟨zs1, o1, l1, at1⟩ := own_sets bs ((i + m)) w.drew _ hmore.drew (by rw [hbl]; omega)
  rw [← hW1] at o1
  have hcp1 : ∀ ty dc sc, (Builtin.copy_ #[67, 67] ty #[.slice (some ⟨g, (i + m), none⟩) (n + m - (i + m)) dc, .slice (some ⟨g, i, none⟩) (n + m - i) sc]).run Tryz.prog w.drew = .ok (goInt (Nat.min (n + m - i) (n + m - (i + m)) : Nat)) W1 := fun ty dc sc => by
    rw [hW1]
    exact run_copy_cellsN w.drew _ _ ty 3 1 g ((i + m)) (n + m - (i + m)) dc ⟨g, i, none⟩ (n + m - i) sc bs Tryz.underlying67 hsz (by rw [hbl]; simp only [Nat.min_def]; split <;> omega)
      (fun j v hj => by rw [Addr.add_lit]; exact hxc _ v (by rwa [hbs, List.getElem?_drop] at hj))
      (fun j hj => (hsp _ _ hmore _ (by omega)).1) (fun j hj => (hsp _ _ hmore _ (by omega)).2) (fun v hv => h1x v (by rw [hbs] at hv; exact List.mem_of_mem_drop hv))
  have hcp2 : ∀ (W : World), (∀ x, W.cell? x = W1.cell? x) → (∀ x, W.frozen? x = W1.frozen? x) → ∀ ty dc, (Builtin.copy_ #[67, 67] ty #[.slice (some ⟨g, i, none⟩) (n + m - i) dc, .slice (some ⟨vb, 0, none⟩) m vc]).run Tryz.prog W = .ok (goInt (Nat.min m (n + m - i) : Nat)) (W.setCells g (i) ys) := fun W hWc hWf ty dc =>
    run_copy_cellsN W _ _ ty 3 1 g (i) (n + m - i) dc ⟨vb, 0, none⟩ m vc ys Tryz.underlying67 hsz (by rw [hyl]; simp only [Nat.min_def]; split <;> omega)
      (fun j v hj => by
        rw [Addr.add_lit, hWc, hW1, World.cell?_setCells_out g _ _ _ _ (fun h _ => absurd h hvb), Nat.zero_add]
        exact hyc j v hj)
      (fun j hj => by rw [hWc]; exact (hsp _ _ o1 _ (by omega)).1) (fun j hj => by rw [hWf]; exact (hsp _ _ o1 _ (by omega)).2) h1y
  obtain ⟨zs2, o2, l2, at2⟩ := own_sets ys (i) W1 _ o1 (by omega)
  have hfin : zs2 = xs.take (i) ++ ys ++ bs := by
    rw [hbs]
    refine ins_eq xs ys zs2 (i) (by omega) (fun j hj => ?_) (fun j hj => ?_) (fun j => ?_)
    · rw [at2 j, if_neg (by omega), at1 j, if_neg (by omega)]
      exact hzx j (by omega)
    · rw [at2, if_pos (by omega), Nat.add_sub_cancel_left]
    · rw [at2, if_neg (by omega), at1]
      by_cases hj : i + ys.length + j < (i + m) + bs.length
      · rw [if_pos (by omega), hbs, List.getElem?_drop]
        congr 1; omega
      · rw [if_neg (by omega), List.getElem?_eq_none (by omega), List.getElem?_eq_none (by omega)]
  rw [hfin] at o2
  have hkp : w.grownBy (W1.setCells g (i) ys) (some g) := by
    have h1 : Kp (fun q => q = g) w (W1.setCells g (i) ys) := by
      rw [hW1]
      exact Kp.sets (F := fun q => q = g) (g := g) (.inl rfl) _ _ _ (Kp.sets (F := fun q => q = g) (g := g) (.inl rfl) _ _ _ (Kp.of_below (Below.refl _ w).drew _))
    exact ⟨h1.os, h1.tape, h1.output, h1.size, fun k hk hk2 => h1.block k hk (fun e => hk2 (by rw [e]))⟩
  have HR := Lib.hid (And.intro o2 hkp)
  rw [← hbs]
  have mixed : (Tryz.prog).follows .mixedOrders = true := by kernel_rfl
  clear o2 hkp hfin at2 at1 o1 hmore h hy hxc hyc hsp hzx hW1 hbs
  go_enter Tryz.func208, Tryz.ntmps208
  go_wp2_with (simp only [hov])
  go_region_law_o (refine step_copy_runI rfl _ _ 67 67 rfl _ _ (by simp [Act.eval, Act.put]) (by simp [Act.eval, Act.put]) (hcp1 _ _ _) ?_)
  go_wp2_with (at_builtin; refine wpList_copy_runI _ rfl _ _ 67 67 rfl _ _ rfl rfl (hcp2 _ (fun _ => rfl) (fun _ => rfl) _ _) ?_)
  go_ret
  exact ⟨_, rfl, HR.out.1, HR.out.2, .inl rfl⟩

set_option maxRecDepth 100000 in
set_option maxHeartbeats 1600000 in
theorem vinsert_growI (y : Value) (base g n cp i m : Nat) (xs ys : List Value) (w : World) (h : w.ownsRow base 3 1 (.slice (some ⟨g, 0, none⟩) n cp) n xs) (hi : i < n) (hm : 0 < m) (hroom : cp < n + m) (hn : n + m ≤ 100000) (hy : w.ownsRow 0 3 1 y m ys) (h1x : ∀ u ∈ xs, u.oneCell' = true) (h1y : ∀ u ∈ ys, u.oneCell' = true) (hB : base ≤ w.heap.size) :
    Calls Tryz.prog 208 #[.slice (some ⟨g, 0, none⟩) n cp, .int .i64 i, y] w fun e w' => ∃ v', e = .returned v' ∧ w'.ownsRow base 3 1 v' (n + m) (xs.take (i) ++ ys ++ xs.drop (i)) ∧ w.grownBy w' (some g) ∧ (v'.ownBlock = some g ∨ v'.ownBlock = some w.heap.size) := by
  obtain ⟨i1, hi1, hy0, hy1, hy2⟩ := info_parts ins_infoI
  have hsz : (Tryz.prog.info? 3).map (·.size) = some 1 := by rw [hi1]; simp [hy1]
  obtain ⟨vb, vc, rfl⟩ : ∃ vb vc, y = .slice (some ⟨vb, 0, none⟩) m vc := by
    rcases hy.2 with ⟨_, e⟩ | ⟨vb, vc, _, e, _⟩
    · omega
    · exact ⟨vb, vc, e⟩
  have hcp := own_cap h
  have hxl : xs.length = n * 1 := h.1
  have hyl : ys.length = m * 1 := hy.1
  have hgw : g < w.heap.size := (own_blk h g rfl).2
  have hvw : vb < w.heap.size := (own_blk hy vb rfl).2
  have hxc : ∀ j u, xs[j]? = some u → w.cell? ⟨g, j, none⟩ = some u := fun j u hu => by
    obtain ⟨g', c', e1, _, h1, _⟩ := own_at h hu
    simp only [Value.slice.injEq, Option.some.injEq, Addr.mk.injEq, and_true, true_and] at e1
    obtain ⟨rfl, _⟩ := e1
    exact h1
  have hyc : ∀ j u, ys[j]? = some u → w.cell? ⟨vb, j, none⟩ = some u := fun j u hu => by
    obtain ⟨g', c', e1, _, h1, _⟩ := own_at hy hu
    simp only [Value.slice.injEq, Option.some.injEq, Addr.mk.injEq, and_true, true_and] at e1
    obtain ⟨rfl, _⟩ := e1
    exact h1
  obtain ⟨bs, hbs⟩ : ∃ bs, bs = xs.drop (i) := ⟨_, rfl⟩
  obtain ⟨as_, has⟩ : ∃ as_, as_ = xs.take (i) := ⟨_, rfl⟩
  have hbl : bs.length = (n - i) * 1 := by rw [hbs, List.length_drop, hxl]; omega
  have hal : as_.length = i := by rw [has, List.length_take, hxl]; omega
  have hold : (Builtin.firstCells i1.size i (.slice (some ⟨g, 0, none⟩) i cp)).run Tryz.prog w.drew = .ok as_.toArray w.drew := by
    rw [hy1]
    exact run_firstCells_some (P := Tryz.prog) (w := w.drew) 1 i ⟨g, 0, none⟩ i cp as_ (by omega) (fun j v hj => by
      rw [Addr.add_lit, Nat.zero_add]
      refine hxc j v ?_
      rw [has, List.getElem?_take] at hj
      split at hj
      · exact hj
      · cases hj)
  have hkk : (n : Int) + (m : Int) - (i : Int) = ((n + m - i : Nat) : Int) := by omega
  have hik : i + (n + m - i) = n + m := by omega
  obtain ⟨G, hG⟩ : ∃ G, G = grownCap w (n + m) cp 3 := ⟨_, rfl⟩
  obtain ⟨ROW, hROW⟩ : ∃ ROW : Array Value, ROW = as_.toArray ++ Builtin.zeroCells ((.int .i64 0) : Value).cells (n + m - i) ++ Builtin.zeroCells ((.int .i64 0) : Value).cells (G - (n + m)) := ⟨_, rfl⟩
  have hrz : ∀ ty, (Builtin.append_ #[67, 3] ty #[.slice (some ⟨g, 0, none⟩) i cp, .int .i64 ((n : Int) + (m : Int) - (i : Int))]).run Tryz.prog w =
      .ok (.slice (some ⟨w.heap.size, 0, none⟩) (n + m) G) (w.drew.alloc (.cells ROW 3)) := fun ty => by
    have h := Lib.run_append_grow_zeros w 67 3 ty 3 i1 _ .i64 .i64 Tryz.underlying67 Tryz.underlying3 hi1 hy0 (some ⟨g, 0, none⟩) i cp as_ hold (n + m - i) (by omega) (by omega) (by omega) (by omega) (by rw [hy2]; omega) (by rw [hy2, hik]; exact growslice_fits hroom (by omega))
    rw [hik, ← hG, ← hROW] at h
    rw [hkk]
    exact h
  have hGn : n + m ≤ G := by rw [hG]; exact grownCap_ge w _ _ _
  have hGm : G ≤ maxLen := by rw [hG]; exact grownCap_le_maxLen w (n + m) cp 3 (by unfold maxLen; omega)
  have hG63 : G ≤ 9223372036854775807 := by unfold maxLen at hGm; omega
  have hzc : ∀ q, (Builtin.zeroCells ((.int .i64 0) : Value).cells q).size = q * 1 := fun q => by unfold Builtin.zeroCells; rw [Array.size_map, Array.size_range, ins_zerosI]
  have hRs : ROW.size = G * 1 := by
    rw [hROW, Array.size_append, Array.size_append, hzc, hzc]
    simp only [List.size_toArray, hal]
    omega
  have hRa : ∀ j, j < i → ROW.toList[j]? = xs[j]? := fun j hj => by
    rw [hROW, Array.toList_append, Array.toList_append, List.append_assoc, List.getElem?_append_left (by simpa [hal] using hj)]
    show as_[j]? = _
    rw [has, List.getElem?_take_of_lt hj]
  obtain ⟨W1, hW1⟩ : ∃ W1, W1 = w.drew.alloc (.cells ROW 3) := ⟨_, rfl⟩
  rw [← hW1] at hrz
  have o0 : W1.ownsRow base 3 1 (.slice (some ⟨w.heap.size, 0, none⟩) (n + m) G) (n + m) (ROW.toList.take ((n + m) * 1)) := by
    rw [hW1]
    refine ⟨by rw [List.length_take, Array.length_toList, hRs]; omega, .inr ⟨w.heap.size, G, ROW, rfl, hB, heap_alloc_new w.drew _, hGn, hGm, hRs, rfl⟩⟩
  have hsp : ∀ (W : World) (zs' : List Value), W.ownsRow base 3 1 (.slice (some ⟨w.heap.size, 0, none⟩) (n + m) G) (n + m) zs' → ∀ k, k < (n + m) * 1 → (W.cell? ⟨w.heap.size, k, none⟩).isSome = true ∧ W.frozen? ⟨w.heap.size, k, none⟩ = false := fun W zs' hW k hk => by
    obtain ⟨g', c', e1, _, h1, h2⟩ := own_at hW (j := k) (List.getElem?_eq_getElem (by rw [hW.1]; exact hk))
    simp only [Value.slice.injEq, Option.some.injEq, Addr.mk.injEq, and_true, true_and] at e1
    obtain ⟨rfl, _⟩ := e1
    exact ⟨by rw [h1]; rfl, h2⟩
  have hOb : ∀ b j v, b < w.heap.size → w.cell? ⟨b, j, none⟩ = some v → W1.cell? ⟨b, j, none⟩ = some v := fun b j v hb h => by rw [hW1, World.cell?_alloc_past (w := w.drew) _ b j hb]; exact h
  obtain ⟨zs1, o1, l1, at1⟩ := own_sets ys (i) W1 _ o0 (by omega)
  have hcpA : ∀ (W : World), (∀ x, W.cell? x = W1.cell? x) → (∀ x, W.frozen? x = W1.frozen? x) → ∀ ty dc, (Builtin.copy_ #[67, 67] ty #[.slice (some ⟨w.heap.size, i, none⟩) (n + m - i) dc, .slice (some ⟨vb, 0, none⟩) m vc]).run Tryz.prog W = .ok (goInt (Nat.min m (n + m - i) : Nat)) (W.setCells w.heap.size (i) ys) := fun W hWc hWf ty dc =>
    run_copy_cellsN W _ _ ty 3 1 w.heap.size (i) (n + m - i) dc ⟨vb, 0, none⟩ m vc ys Tryz.underlying67 hsz (by rw [hyl]; simp only [Nat.min_def]; split <;> omega)
      (fun j v hj => by rw [Addr.add_lit, hWc, Nat.zero_add]; exact hOb _ _ v hvw (hyc j v hj))
      (fun j hj => by rw [hWc]; exact (hsp _ _ o0 _ (by omega)).1) (fun j hj => by rw [hWf]; exact (hsp _ _ o0 _ (by omega)).2) h1y
  have hcpB : ∀ (W : World), (∀ x, W.cell? x = (W1.setCells w.heap.size (i) ys).cell? x) → (∀ x, W.frozen? x = (W1.setCells w.heap.size (i) ys).frozen? x) → ∀ ty dc sc, (Builtin.copy_ #[67, 67] ty #[.slice (some ⟨w.heap.size, (i + m), none⟩) (n + m - (i + m)) dc, .slice (some ⟨g, i, none⟩) (n - i) sc]).run Tryz.prog W = .ok (goInt (Nat.min (n - i) (n + m - (i + m)) : Nat)) (W.setCells w.heap.size ((i + m)) bs) := fun W hWc hWf ty dc sc =>
    run_copy_cellsN W _ _ ty 3 1 w.heap.size ((i + m)) (n + m - (i + m)) dc ⟨g, i, none⟩ (n - i) sc bs Tryz.underlying67 hsz (by rw [hbl]; simp only [Nat.min_def]; split <;> omega)
      (fun j v hj => by
        rw [Addr.add_lit, hWc, World.cell?_setCells_out _ _ _ _ _ (fun h _ => absurd h (by omega : g ≠ w.heap.size))]
        exact hOb _ _ v hgw (hxc _ v (by rwa [hbs, List.getElem?_drop] at hj)))
      (fun j hj => by rw [hWc]; exact (hsp _ _ o1 _ (by omega)).1) (fun j hj => by rw [hWf]; exact (hsp _ _ o1 _ (by omega)).2) (fun v hv => h1x v (by rw [hbs] at hv; exact List.mem_of_mem_drop hv))
  obtain ⟨zs2, o2, l2, at2⟩ := own_sets bs ((i + m)) (W1.setCells w.heap.size (i) ys).drew _ o1.drew (by omega)
  have hfin : zs2 = xs.take (i) ++ ys ++ bs := by
    rw [hbs]
    have hzl2 : zs2.length = (n + m) * 1 := o2.1
    refine ins_eq xs ys zs2 (i) (by omega) (fun j hj => ?_) (fun j hj => ?_) (fun j => ?_)
    · rw [at2 j, if_neg (by omega), at1 j, if_neg (by omega), List.getElem?_take_of_lt (by omega)]
      exact hRa j hj
    · rw [at2, if_neg (by omega), at1, if_pos (by omega), Nat.add_sub_cancel_left]
    · by_cases hj : i + ys.length + j < (i + m) + bs.length
      · rw [at2, if_pos (by omega), hbs, List.getElem?_drop]
        congr 1; omega
      · rw [List.getElem?_eq_none (by omega), List.getElem?_eq_none (by omega)]
  rw [hfin] at o2
  have hkp : w.grownBy ((W1.setCells w.heap.size (i) ys).drew.setCells w.heap.size ((i + m)) bs) (some g) := by
    have h1 : Kp (fun _ => False) w ((W1.setCells w.heap.size (i) ys).drew.setCells w.heap.size ((i + m)) bs) := by
      rw [hW1]
      exact Kp.sets (F := fun _ => False) (g := w.heap.size) (.inr (Nat.le_refl _)) _ _ _ (Kp.sets (F := fun _ => False) (g := w.heap.size) (.inr (Nat.le_refl _)) _ _ _ (Kp.of_below ((Below.refl _ w).drew.alloc (Nat.le_refl _) _) _)).drew
    exact ⟨h1.os, h1.tape, h1.output, h1.size, fun k hk _ => h1.block k hk (fun e => e)⟩
  have HR := Lib.hid (And.intro o2 hkp)
  have mixed : (Tryz.prog).follows .mixedOrders = true := by kernel_rfl
  have hz1 : ¬ ((m : Int) = 0) := by omega
  have hz2 : ¬ ((i : Int) = (n : Int)) := by omega
  have hz3 : (cp : Int) < (n : Int) + (m : Int) := by omega
  have hGi : ¬ (G = i) := by omega
  have hGim : ¬ (G = i + m) := by omega
  have hci : ¬ (cp = i) := by have := hcp.1; omega
  have hw1 : IntKind.i64.wrap ((i : Int) + (m : Int)) = (i : Int) + (m : Int) := by rw [IntKind.wrap_i64]; omega
  have hb1 : (0 : Int) ≤ (i : Int) + (m : Int) := by omega
  have hin : i ≤ n := by omega
  have htn : ((i : Int) + (m : Int)).toNat = i + m := by omega
  have hb3 : (i : Int) ≤ (n : Int) := by omega
  have hc63 := hcp.2
  have hF1 : ∀ x, ((W1.setCells w.heap.size (i) ys).drew).cell? x = (W1.setCells w.heap.size (i) ys).cell? x := fun x => rfl
  have hF2 : ∀ x, ((W1.setCells w.heap.size (i) ys).drew).frozen? x = (W1.setCells w.heap.size (i) ys).frozen? x := fun x => rfl
  rw [← has, ← hbs]
  rw [← has] at HR
  clear o2 hkp hfin at2 at1 o1 o0 h hy hxc hyc hsp hW1 hbs has hkk hik hold hROW hG hRs hRa hOb hzc
  go_enter Tryz.func208, Tryz.ntmps208
  go_wp2_with (first
    | (at_builtin; refine Lib.wpList_append_run _ rfl _ _ _ _ rfl _ _ rfl rfl _ _ (hrz _) ?_)
    | (at_builtin; refine wpList_copy_runI _ rfl _ _ 67 67 rfl _ _ rfl rfl (hcpA _ (fun _ => rfl) (fun _ => rfl) _ _) ?_)
    | (at_builtin; refine wpList_copy_runI _ rfl _ _ 67 67 rfl _ _ rfl rfl (hcpB _ (fun _ => rfl) (fun _ => rfl) _ _ _) ?_))
  go_region_law_o (refine step_copy_runI rfl _ _ 67 67 rfl (.slice (some ⟨w.heap.size, (i + m), none⟩) (n + m - (i + m)) (G - (i + m))) (.slice (some ⟨g, i, none⟩) (n - i) (cp - i)) (by simp [Act.eval, Act.put]) (by simp [Act.eval, Act.put]) (hcpB _ hF1 hF2 3 (G - (i + m)) (cp - i)) ?_)
  go_wp2
  go_ret
  exact ⟨_, rfl, HR.out.1, HR.out.2, .inr rfl⟩
theorem vinsertI (v y : Value) (base n i m : Nat) (xs ys : List Value) (w : World) (h : w.ownsRow base 3 1 v n xs) (hi : i ≤ n) (hm : 0 < m) (hn : n + m ≤ 100000) (hy : w.ownsRow 0 3 1 y m ys) (hne : ∀ q, v.ownBlock = some q → y.ownBlock ≠ some q) (h1x : ∀ u ∈ xs, u.oneCell' = true) (h1y : ∀ u ∈ ys, u.oneCell' = true) (hB : base ≤ w.heap.size) :
    Calls Tryz.prog 208 #[v, .int .i64 i, y] w fun e w' => ∃ v', e = .returned v' ∧ w'.ownsRow base 3 1 v' (n + m) (xs.take (i) ++ ys ++ xs.drop (i)) ∧ w.grownBy w' v.ownBlock ∧ (v'.ownBlock = v.ownBlock ∨ v'.ownBlock = some w.heap.size) := by
  by_cases e : i = n
  · subst e
    refine (vinsert_endI v y base i m xs ys w h hm hn (Rd.of_own hy) hy.1 h1y hB).mono ?_
    rintro e w' ⟨v', rfl, h1, h2, h3⟩
    refine ⟨v', rfl, ?_, h2, h3⟩
    rw [List.take_of_length_le (by have := h.1; omega), List.drop_eq_nil_of_le (by have := h.1; omega), List.append_nil]
    exact h1
  · obtain ⟨g, cp, rfl⟩ : ∃ g cp, v = .slice (some ⟨g, 0, none⟩) n cp := by
      rcases h.2 with ⟨_, e⟩ | ⟨g, cp, _, e, _⟩
      · omega
      · exact ⟨g, cp, e⟩
    by_cases hr : n + m ≤ cp
    · exact vinsert_roomI y base g n cp i m xs ys w h (by omega) hm hr hy (hne g rfl) h1x h1y
    · exact vinsert_growI y base g n cp i m xs ys w h (by omega) hm (by omega) hn hy h1x h1y hB

end Go.Proofs.YtfiledbjbpkleaaGreat

namespace Go.Proofs.YtfiledbjbpkleaaGreat

def icmp (a b : Int) : Int := if a < b then -1 else if b < a then 1 else 0
def lcmp : List UInt8 → List UInt8 → Int
  | [], [] => 0
  | [], _ :: _ => -1
  | _ :: _, [] => 1
  | a :: x, b :: y => if a < b then -1 else if b < a then 1 else lcmp x y
def vcmp (k n : Int) (s : ByteArray) (k' n' : Int) (s' : ByteArray) : Int :=
  if k = k' then (if n = n' then lcmp s.toList s'.toList else icmp n n') else icmp k k'

theorem icmp_range (a b : Int) : -1 ≤ icmp a b ∧ icmp a b ≤ 1 := by unfold icmp; split <;> (try split) <;> omega
theorem icmp_swap (a b : Int) : icmp b a = - icmp a b := by unfold icmp; split <;> (try split) <;> (try split) <;> omega
theorem icmp_zero (a b : Int) : icmp a b = 0 ↔ a = b := by unfold icmp; split <;> (try split) <;> omega
theorem icmp_lt (a b : Int) : icmp a b = -1 ↔ a < b := by unfold icmp; split <;> (try split) <;> omega

theorem u8_ext (a b : UInt8) (h1 : ¬ a < b) (h2 : ¬ b < a) : a = b := by
  rw [UInt8.lt_iff_toNat_lt] at h1 h2
  exact UInt8.toNat_inj.1 (by omega)
theorem u8_irrefl (a : UInt8) : ¬ a < a := by rw [UInt8.lt_iff_toNat_lt]; omega

theorem lcmp_range : ∀ a b : List UInt8, -1 ≤ lcmp a b ∧ lcmp a b ≤ 1
  | [], [] => by simp [lcmp]
  | [], _ :: _ => by simp [lcmp]
  | _ :: _, [] => by simp [lcmp]
  | a :: x, b :: y => by rw [lcmp]; split <;> (try split) <;> first | omega | exact lcmp_range x y
theorem lcmp_swap : ∀ a b : List UInt8, lcmp b a = - lcmp a b
  | [], [] => by simp [lcmp]
  | [], _ :: _ => by simp [lcmp]
  | _ :: _, [] => by simp [lcmp]
  | a :: x, b :: y => by
    have ih := lcmp_swap x y
    rw [lcmp, lcmp]
    by_cases h1 : a < b
    · have h2 : ¬ b < a := by rw [UInt8.lt_iff_toNat_lt] at *; omega
      simp [h1, h2]
    · by_cases h2 : b < a <;> simp [h1, h2, ih]
theorem lcmp_zero : ∀ a b : List UInt8, lcmp a b = 0 ↔ a = b
  | [], [] => by simp [lcmp]
  | [], _ :: _ => by simp [lcmp]
  | _ :: _, [] => by simp [lcmp]
  | a :: x, b :: y => by
    have ih := lcmp_zero x y
    rw [lcmp]
    by_cases h1 : a < b
    · have : a ≠ b := fun e => u8_irrefl b (by rwa [e] at h1)
      simp [h1, this]
    · by_cases h2 : b < a
      · have : a ≠ b := fun e => u8_irrefl b (by rwa [e] at h2)
        simp [h1, h2, this]
      · simp [ih, u8_ext a b h1 h2]
theorem lcmp_less : ∀ a b : List UInt8, Op.bytesLess a b = decide (lcmp a b = -1)
  | [], [] => by simp [lcmp, Op.bytesLess]
  | [], _ :: _ => by simp [lcmp, Op.bytesLess]
  | _ :: _, [] => by simp [lcmp, Op.bytesLess]
  | a :: x, b :: y => by
    have ih := lcmp_less x y
    rw [lcmp, Op.bytesLess]
    by_cases h1 : a < b
    · simp [h1]
    · by_cases h2 : b < a
      · have : a ≠ b := fun e => u8_irrefl b (by rwa [e] at h2)
        simp [h1, h2, this]
      · simp [ih, u8_ext a b h1 h2]
theorem lcmp_trans : ∀ a b c : List UInt8, lcmp a b ≤ 0 → lcmp b c ≤ 0 → lcmp a c ≤ 0 ∧ (lcmp a c = 0 → lcmp a b = 0 ∧ lcmp b c = 0)
  | [], [], [] => by simp [lcmp]
  | [], [], _ :: _ => by simp [lcmp]
  | [], _ :: _, [] => by simp [lcmp]
  | [], _ :: _, _ :: _ => by simp [lcmp]
  | _ :: _, [], _ => by simp [lcmp]
  | _ :: _, _ :: _, [] => by simp [lcmp]
  | a :: x, b :: y, c :: z => by
    have ih := lcmp_trans x y z
    rw [lcmp, lcmp, lcmp]
    simp only [UInt8.lt_iff_toNat_lt]
    generalize a.toNat = a
    generalize b.toNat = b
    generalize c.toNat = c
    intro h1 h2
    repeat' split at h1
    all_goals repeat' split at h2
    all_goals repeat' split
    all_goals first | omega | exact ih h1 h2

theorem icmp_m1 {a b : Int} (h : a < b) : -1 = icmp a b := by simp [icmp, h]
theorem icmp_p1 {a b : Int} (h : b < a) : 1 = icmp a b := by unfold icmp; rw [if_neg (by omega), if_pos h]
theorem icmp_0 {a b : Int} (h : b ≤ a) (h' : a ≤ b) : 0 = icmp a b := by unfold icmp; rw [if_neg (by omega), if_neg (by omega)]
theorem lcmp_m1 {a b : List UInt8} (h : Op.bytesLess a b = true) : -1 = lcmp a b := by rw [lcmp_less] at h; exact (of_decide_eq_true h).symm
theorem lcmp_p1 {a b : List UInt8} (h : Op.bytesLess a b = false) (h' : (!a == b) = true) : 1 = lcmp a b := by
  rw [lcmp_less] at h
  have h1 := of_decide_eq_false h
  have h2 : ¬ lcmp a b = 0 := fun e => by rw [(lcmp_zero a b).1 e] at h'; simp at h'
  have := lcmp_range a b
  omega
theorem lcmp_0 {a b : List UInt8} (h' : (!a == b) = false) : 0 = lcmp a b := by
  have : a = b := by simpa using h'
  exact ((lcmp_zero a b).2 this).symm

theorem vcmp_range (k n : Int) (s : ByteArray) (k' n' : Int) (s' : ByteArray) : -1 ≤ vcmp k n s k' n' s' ∧ vcmp k n s k' n' s' ≤ 1 := by
  unfold vcmp; split <;> (try split)
  · exact lcmp_range _ _
  · exact icmp_range _ _
  · exact icmp_range _ _
theorem vcmp_swap (k n : Int) (s : ByteArray) (k' n' : Int) (s' : ByteArray) : vcmp k' n' s' k n s = - vcmp k n s k' n' s' := by
  unfold vcmp
  by_cases h1 : k = k'
  · by_cases h2 : n = n'
    · simp [h1, h2, lcmp_swap s.toList]
    · simp [h1, h2, Ne.symm h2, icmp_swap n]
  · simp [h1, Ne.symm h1, icmp_swap k]
theorem vcmp_zero (k n : Int) (s : ByteArray) (k' n' : Int) (s' : ByteArray) : vcmp k n s k' n' s' = 0 ↔ k = k' ∧ n = n' ∧ s.toList = s'.toList := by
  unfold vcmp
  by_cases h1 : k = k'
  · by_cases h2 : n = n'
    · simp [h1, h2, lcmp_zero]
    · simp [h1, h2, icmp_zero]
  · simp [h1, icmp_zero]
theorem vcmp_trans (k1 n1 : Int) (s1 : ByteArray) (k2 n2 : Int) (s2 : ByteArray) (k3 n3 : Int) (s3 : ByteArray) :
    vcmp k1 n1 s1 k2 n2 s2 ≤ 0 → vcmp k2 n2 s2 k3 n3 s3 ≤ 0 → vcmp k1 n1 s1 k3 n3 s3 ≤ 0 ∧ (vcmp k1 n1 s1 k3 n3 s3 = 0 → vcmp k1 n1 s1 k2 n2 s2 = 0 ∧ vcmp k2 n2 s2 k3 n3 s3 = 0) := by
  have e1 : ∀ a b : Int, icmp a b ≤ 0 → a ≠ b → a < b := fun a b h hne => by unfold icmp at h; split at h <;> (try split at h) <;> omega
  have e2 : ∀ a b : Int, a < b → icmp a b = -1 := fun a b h => (icmp_lt a b).2 h
  unfold vcmp
  have L := lcmp_trans s1.toList s2.toList s3.toList
  by_cases ha : k1 = k2
  · subst ha
    by_cases hb : k1 = k3
    · subst hb
      simp only [if_true]
      by_cases hc : n1 = n2
      · subst hc
        by_cases hd : n1 = n3
        · subst hd; simpa using L
        · simp only [if_true, if_neg hd]; intro _ h; have := e2 _ _ (e1 _ _ h hd); omega
      · simp only [if_neg hc]
        by_cases hd : n2 = n3
        · subst hd; simp only [if_true, if_neg hc]; intro h _; have := e2 _ _ (e1 _ _ h hc); omega
        · simp only [if_neg hd]; intro h h'
          have a1 := e1 _ _ h hc; have a2 := e1 _ _ h' hd
          rw [if_neg (by omega), e2 n1 n3 (by omega)]; omega
    · simp only [if_true, if_neg hb]; intro _ h; have := e2 _ _ (e1 _ _ h hb); omega
  · simp only [if_neg ha]
    by_cases hb : k2 = k3
    · subst hb; simp only [if_true, if_neg ha]; intro h _; have := e2 _ _ (e1 _ _ h ha); omega
    · simp only [if_neg hb]; intro h h'
      have a1 := e1 _ _ h ha; have a2 := e1 _ _ h' hb
      rw [if_neg (by omega), e2 k1 k3 (by omega)]; omega

theorem vc_0 {k n k' n' : Int} {s s' : ByteArray} (h1 : k = k') (h2 : n = n') (h3 : s.toList = s'.toList) : 0 = vcmp k n s k' n' s' := ((vcmp_zero _ _ _ _ _ _).2 ⟨h1, h2, h3⟩).symm
theorem vc_s {k n k' n' : Int} {s s' : ByteArray} (h1 : k = k') (h2 : n = n') : lcmp s.toList s'.toList = vcmp k n s k' n' s' := by simp [vcmp, h1, h2]
theorem vc_n {k n k' n' : Int} {s s' : ByteArray} (h1 : k = k') (h2 : ¬ n = n') : icmp n n' = vcmp k n s k' n' s' := by simp [vcmp, h1, h2]
theorem vc_k {k n k' n' : Int} {s s' : ByteArray} (h1 : ¬ k = k') : icmp k k' = vcmp k n s k' n' s' := by simp [vcmp, h1]

def rightB (k n : Int) (s : ByteArray) : Bool :=
  if k = 0 then decide (n = 0) && s.toList.isEmpty else if k = 1 then (decide (n = 0) || decide (n = 1)) && s.toList.isEmpty else if k = 2 then s.toList.isEmpty
  else if k = 3 then decide (n = 0) && decide ((s.size : Int) ≤ 4096) else false

theorem drop_at (s : ByteArray) (i : Nat) (h : i < s.size) : s.toList.drop i = s[i] :: s.toList.drop (i + 1) := by
  rw [ByteArray.toList_eq, List.drop_eq_getElem_cons (by simpa using h)]; rfl
theorem len_toList (s : ByteArray) : s.toList.length = s.size := by rw [ByteArray.toList_eq]; simp
theorem lc_part {s t : ByteArray} {i : Nat} (hi : i < s.size) (hj : i < t.size) (hd : lcmp s.toList t.toList = lcmp (s.toList.drop i) (t.toList.drop i)) (hne : ((s[i].toNat : Int) != (t[i].toNat : Int)) = true) :
    decide (s[i].toNat < t[i].toNat) = decide (lcmp s.toList t.toList = -1) := by
  rw [hd, drop_at s i hi, drop_at t i hj, lcmp]
  simp only [UInt8.lt_iff_toNat_lt]
  have : ¬ (s[i].toNat : Int) = (t[i].toNat : Int) := by simpa using hne
  by_cases h : s[i].toNat < t[i].toNat
  · simp [h]
  · have h' : t[i].toNat < s[i].toNat := by omega
    simp [h, h']
theorem lc_on {s t : ByteArray} {i : Nat} (hi : i < s.size) (hj : i < t.size) (hd : lcmp s.toList t.toList = lcmp (s.toList.drop i) (t.toList.drop i)) (hne : ((s[i].toNat : Int) != (t[i].toNat : Int)) = false) :
    lcmp s.toList t.toList = lcmp (s.toList.drop (i + 1)) (t.toList.drop (i + 1)) := by
  rw [hd, drop_at s i hi, drop_at t i hj, lcmp]
  have e : s[i].toNat = t[i].toNat := by have : (s[i].toNat : Int) = (t[i].toNat : Int) := by simpa using hne
                                         omega
  simp only [UInt8.lt_iff_toNat_lt]
  rw [if_neg (by omega), if_neg (by omega)]
theorem lc_end {s t : ByteArray} {i : Nat} (hi : i ≤ s.size) (hj : i ≤ t.size) (hd : lcmp s.toList t.toList = lcmp (s.toList.drop i) (t.toList.drop i)) (h : ¬ (i < s.size ∧ i < t.size)) :
    decide (s.size < t.size) = decide (lcmp s.toList t.toList = -1) := by
  rw [hd]
  by_cases h1 : i < s.size
  · have h2 : i = t.size := by omega
    rw [drop_at s i h1, List.drop_eq_nil_of_le (show t.toList.length ≤ i by rw [len_toList]; omega)]
    simp [lcmp]; omega
  · have h1' : i = s.size := by omega
    rw [List.drop_eq_nil_of_le (show s.toList.length ≤ i by rw [len_toList]; omega)]
    by_cases h2 : i < t.size
    · rw [drop_at t i h2]; simp [lcmp]; omega
    · rw [List.drop_eq_nil_of_le (show t.toList.length ≤ i by rw [len_toList]; omega)]; simp [lcmp]; omega
def lessB (k n : Int) (s : ByteArray) (k' n' : Int) (s' : ByteArray) : Bool := decide (vcmp k n s k' n' s' = -1)
theorem less_k {k n k' n' : Int} {s s' : ByteArray} (h : ¬ k = k') : decide (k < k') = lessB k n s k' n' s' := by simp [lessB, vcmp, h, icmp_lt]
theorem less_n {k n k' n' : Int} {s s' : ByteArray} (h : k = k') (h2 : ¬ n = n') : decide (n < n') = lessB k n s k' n' s' := by simp [lessB, vcmp, h, h2, icmp_lt]
theorem less_s (k n : Int) (s s' : ByteArray) : lessB k n s k n s' = decide (lcmp s.toList s'.toList = -1) := by simp [lessB, vcmp]
theorem bytes_ext {s t : ByteArray} (h : s.toList = t.toList) : s = t := by
  rw [ByteArray.toList_eq, ByteArray.toList_eq] at h
  obtain ⟨⟨a⟩⟩ := s
  obtain ⟨⟨b⟩⟩ := t
  simp at h
  rw [h]

end Go.Proofs.YtfiledbjbpkleaaGreat

namespace Go.Proofs.YtfiledbjbpkleaaGreat

abbrev Ky := Int × Int × ByteArray
abbrev Pr := Ky × Ky
def dg (g i : Nat) : Nat := g / 32 ^ i % 32
theorem dg_lt (g i : Nat) : dg g i < 32 := Nat.mod_lt _ (by decide)
def vc (a b : Ky) : Int := vcmp a.1 a.2.1 a.2.2 b.1 b.2.1 b.2.2
theorem vc_eq {a b : Ky} : vc a b = 0 ↔ a = b := by
  obtain ⟨a1, a2, a3⟩ := a
  obtain ⟨b1, b2, b3⟩ := b
  unfold vc
  rw [vcmp_zero]
  constructor
  · rintro ⟨h1, h2, h3⟩
    simp only at h1 h2 h3
    rw [h1, h2, bytes_ext h3]
  · intro h
    simp only [Prod.mk.injEq] at h
    exact ⟨h.1, h.2.1, by rw [h.2.2]⟩
theorem vc_swap (a b : Ky) : vc b a = - vc a b := vcmp_swap _ _ _ _ _ _
theorem vc_range (a b : Ky) : -1 ≤ vc a b ∧ vc a b ≤ 1 := vcmp_range _ _ _ _ _ _
theorem vc_trans {a b c : Ky} (h1 : vc a b = -1) (h2 : vc b c = -1) : vc a c = -1 := by
  obtain ⟨h3, h4⟩ := vcmp_trans a.1 a.2.1 a.2.2 b.1 b.2.1 b.2.2 c.1 c.2.1 c.2.2 (by show vc a b ≤ 0; omega) (by show vc b c ≤ 0; omega)
  have h5 := vc_range a c
  have h6 : vc a c ≤ 0 := h3
  have h7 : vc a c = 0 → vc a b = 0 ∧ vc b c = 0 := h4
  by_cases e : vc a c = 0
  · have := h7 e; omega
  · omega

def ptF (g h : Nat) : Nat → Nat → Nat
  | 0, l => l
  | f + 1, l => if dg g l = dg h l then ptF g h f (l + 1) else l
theorem ptF_spec (g h : Nat) : ∀ f l, l ≤ ptF g h f l ∧ ptF g h f l ≤ l + f ∧ (∀ j, l ≤ j → j < ptF g h f l → dg g j = dg h j) ∧ (ptF g h f l < l + f → dg g (ptF g h f l) ≠ dg h (ptF g h f l))
  | 0, l => ⟨Nat.le_refl _, Nat.le_refl _, fun j h1 h2 => absurd h2 (Nat.not_lt.2 h1), fun h1 => absurd h1 (Nat.lt_irrefl _)⟩
  | f + 1, l => by
    unfold ptF
    by_cases e : dg g l = dg h l
    · rw [if_pos e]
      obtain ⟨h1, h2, h3, h4⟩ := ptF_spec g h f (l + 1)
      refine ⟨by omega, by omega, fun j j1 j2 => ?_, fun h5 => h4 (by omega)⟩
      by_cases ej : j = l
      · rw [ej]; exact e
      · exact h3 j (by omega) j2
    · rw [if_neg e]
      exact ⟨Nat.le_refl _, by omega, fun j j1 j2 => by omega, fun _ => e⟩
def pt (g h : Nat) : Nat := ptF g h 13 0
theorem pt_le (g h : Nat) : pt g h ≤ 13 := by have := (ptF_spec g h 13 0).2.1; unfold pt; omega
theorem pt_eq {g h j : Nat} (hj : j < pt g h) : dg g j = dg h j := (ptF_spec g h 13 0).2.2.1 j (Nat.zero_le _) hj
theorem pt_ne {g h : Nat} (hp : pt g h < 13) : dg g (pt g h) ≠ dg h (pt g h) := (ptF_spec g h 13 0).2.2.2 (by unfold pt at hp; omega)
theorem pt_uniq {g h p : Nat} (hp : p ≤ 13) (he : ∀ j, j < p → dg g j = dg h j) (hn : p < 13 → dg g p ≠ dg h p) : pt g h = p := by
  rcases Nat.lt_trichotomy (pt g h) p with e | e | e
  · exact absurd (he _ e) (pt_ne (by omega))
  · exact e
  · exact absurd (pt_eq e) (hn (by have := pt_le g h; omega))
theorem pt_swap (g h : Nat) : pt h g = pt g h := pt_uniq (pt_le g h) (fun _ hj => (pt_eq hj).symm) (fun hp => (pt_ne hp).symm)
theorem pt_self (g : Nat) : pt g g = 13 := pt_uniq (Nat.le_refl _) (fun _ _ => rfl) (fun h => absurd h (Nat.lt_irrefl _))
section
variable (hs : Ky → Nat)
def kltB (a b : Ky) : Bool := if pt (hs a) (hs b) < 13 then decide (dg (hs a) (pt (hs a) (hs b)) < dg (hs b) (pt (hs a) (hs b))) else decide (vc a b = -1)
abbrev klt (a b : Ky) : Prop := kltB hs a b = true
variable {hs}
theorem klt_dg {a b : Ky} (hp : pt (hs a) (hs b) < 13) : klt hs a b ↔ dg (hs a) (pt (hs a) (hs b)) < dg (hs b) (pt (hs a) (hs b)) := by
  unfold klt kltB
  rw [if_pos hp, decide_eq_true_eq]
theorem klt_vc {a b : Ky} (hp : pt (hs a) (hs b) = 13) : klt hs a b ↔ vc a b = -1 := by
  unfold klt kltB
  rw [if_neg (by omega), decide_eq_true_eq]
theorem klt_irrefl (a : Ky) : ¬ klt hs a a := by
  rw [klt_vc (pt_self _), vc_eq.2 rfl]
  decide
theorem klt_total {a b : Ky} (h : a ≠ b) : klt hs a b ∨ klt hs b a := by
  by_cases hp : pt (hs a) (hs b) < 13
  · rw [klt_dg hp, klt_dg (by rw [pt_swap]; exact hp), pt_swap (hs a) (hs b)]
    have := pt_ne hp
    omega
  · have hp' : pt (hs a) (hs b) = 13 := by have := pt_le (hs a) (hs b); omega
    rw [klt_vc hp', klt_vc (by rw [pt_swap]; exact hp'), vc_swap a b]
    have h1 := vc_range a b
    have h2 : vc a b ≠ 0 := fun e => h (vc_eq.1 e)
    omega
theorem klt_trans {a b c : Ky} (h1 : klt hs a b) (h2 : klt hs b c) : klt hs a c := by
  rcases Nat.lt_trichotomy (pt (hs a) (hs b)) (pt (hs b) (hs c)) with e | e | e
  · have hp : pt (hs a) (hs c) = pt (hs a) (hs b) := by
      have h13 : pt (hs a) (hs b) < 13 := by have := pt_le (hs b) (hs c); omega
      refine pt_uniq (by omega) (fun j hj => (pt_eq hj).trans (pt_eq (by omega))) (fun _ => ?_)
      rw [← pt_eq e]
      exact pt_ne h13
    have h13 : pt (hs a) (hs b) < 13 := by have := pt_le (hs b) (hs c); omega
    rw [klt_dg h13] at h1
    rw [klt_dg (by rw [hp]; exact h13), hp, ← pt_eq e]
    exact h1
  · by_cases h13 : pt (hs a) (hs b) < 13
    · have h13' : pt (hs b) (hs c) < 13 := by omega
      rw [klt_dg h13] at h1
      rw [klt_dg h13', ← e] at h2
      have hp : pt (hs a) (hs c) = pt (hs a) (hs b) := pt_uniq (by omega) (fun j hj => (pt_eq hj).trans (pt_eq (by omega))) (fun _ => by omega)
      rw [klt_dg (by rw [hp]; exact h13), hp]
      omega
    · have hp1 : pt (hs a) (hs b) = 13 := by have := pt_le (hs a) (hs b); omega
      have hp2 : pt (hs b) (hs c) = 13 := by omega
      have hp : pt (hs a) (hs c) = 13 := pt_uniq (Nat.le_refl _) (fun j hj => (pt_eq (show j < pt (hs a) (hs b) by omega)).trans (pt_eq (by omega))) (fun h => by omega)
      rw [klt_vc hp1] at h1
      rw [klt_vc hp2] at h2
      rw [klt_vc hp]
      exact vc_trans h1 h2
  · have h13 : pt (hs b) (hs c) < 13 := by have := pt_le (hs a) (hs b); omega
    have hp : pt (hs a) (hs c) = pt (hs b) (hs c) := by
      refine pt_uniq (by omega) (fun j hj => (pt_eq (show j < pt (hs a) (hs b) by omega)).trans (pt_eq hj)) (fun _ => ?_)
      rw [pt_eq e]
      exact pt_ne h13
    rw [klt_dg h13] at h2
    rw [klt_dg (by rw [hp]; exact h13), hp, pt_eq e]
    exact h2
theorem klt_asymm {a b : Ky} (h1 : klt hs a b) : ¬ klt hs b a := fun h2 => klt_irrefl a (klt_trans h1 h2)

abbrev Srt (hs : Ky → Nat) (l : List Pr) : Prop := l.Pairwise (fun p q => klt hs p.1 q.1)
theorem Srt.ext : ∀ {l m : List Pr}, Srt hs l → Srt hs m → (∀ q, q ∈ l ↔ q ∈ m) → l = m
  | [], [], _, _, _ => rfl
  | [], y :: m, _, _, h => absurd ((h y).2 (by simp)) (by simp)
  | x :: l, [], _, _, h => absurd ((h x).1 (by simp)) (by simp)
  | x :: l, y :: m, hl, hm, h => by
    obtain ⟨l1, l2⟩ := List.pairwise_cons.1 hl
    obtain ⟨m1, m2⟩ := List.pairwise_cons.1 hm
    have exy : x = y := by
      rcases List.mem_cons.1 ((h x).1 (by simp)) with e | e
      · exact e
      · rcases List.mem_cons.1 ((h y).2 (by simp)) with e' | e'
        · exact e'.symm
        · exact absurd (m1 x e) (klt_asymm (l1 y e'))
    subst exy
    have hx : ∀ q, q ∈ l → q ≠ x := fun q hq e => klt_irrefl x.1 (by have := l1 q hq; rwa [e] at this)
    have hx' : ∀ q, q ∈ m → q ≠ x := fun q hq e => klt_irrefl x.1 (by have := m1 q hq; rwa [e] at this)
    rw [Srt.ext l2 m2 fun q => ⟨fun hq => (List.mem_cons.1 ((h q).1 (by simp [hq]))).resolve_left (hx q hq), fun hq => (List.mem_cons.1 ((h q).2 (by simp [hq]))).resolve_left (hx' q hq)⟩]

def putD (hs : Ky → Nat) (p : Pr) : Bool → List Pr → List Pr
  | done, [] => if done then [] else [p]
  | done, q :: l => if q.1 = p.1 then p :: putD hs p true l else if done = false ∧ klt hs p.1 q.1 then p :: q :: putD hs p true l else q :: putD hs p done l
def putL (hs : Ky → Nat) (p : Pr) (l : List Pr) : List Pr := putD hs p false l
theorem putD_true {p : Pr} : ∀ {l : List Pr}, (∀ q ∈ l, klt hs p.1 q.1) → putD hs p true l = l
  | [], _ => rfl
  | q :: l, h => by
    have h1 : q.1 ≠ p.1 := fun e => klt_irrefl p.1 (by have := h q (by simp); rwa [e] at this)
    unfold putD
    rw [if_neg h1, if_neg (by simp), putD_true fun x hx => h x (by simp [hx])]
theorem putL_spec {p : Pr} : ∀ {l : List Pr}, Srt hs l → Srt hs (putL hs p l) ∧ ∀ q, q ∈ putL hs p l ↔ q = p ∨ (q ∈ l ∧ q.1 ≠ p.1)
  | [], _ => ⟨by unfold putL putD; simp, fun q => by unfold putL putD; simp⟩
  | x :: l, h => by
    obtain ⟨h1, h2⟩ := List.pairwise_cons.1 h
    obtain ⟨i1, i2⟩ := putL_spec (p := p) h2
    unfold putL putD
    by_cases e : x.1 = p.1
    · rw [if_pos e, putD_true fun q hq => by rw [← e]; exact h1 q hq]
      refine ⟨List.pairwise_cons.2 ⟨fun q hq => by rw [← e]; exact h1 q hq, h2⟩, fun q => ?_⟩
      constructor
      · intro hq
        rcases List.mem_cons.1 hq with rfl | hq
        · exact .inl rfl
        · exact .inr ⟨by simp [hq], fun e' => klt_irrefl p.1 (by have := h1 q hq; rw [e, e'] at this; exact this)⟩
      · rintro (rfl | ⟨hq, hne⟩)
        · simp
        · rcases List.mem_cons.1 hq with rfl | hq
          · exact absurd e hne
          · simp [hq]
    · rw [if_neg e]
      by_cases hk : klt hs p.1 x.1
      · rw [if_pos ⟨rfl, hk⟩, putD_true fun q hq => klt_trans hk (h1 q hq)]
        refine ⟨List.pairwise_cons.2 ⟨fun q hq => ?_, h⟩, fun q => ?_⟩
        · rcases List.mem_cons.1 hq with rfl | hq
          · exact hk
          · exact klt_trans hk (h1 q hq)
        · constructor
          · intro hq
            rcases List.mem_cons.1 hq with rfl | hq
            · exact .inl rfl
            · refine .inr ⟨hq, fun e' => ?_⟩
              rcases List.mem_cons.1 hq with rfl | hq
              · exact e e'
              · exact klt_irrefl p.1 (by have := klt_trans hk (h1 q hq); rwa [e'] at this)
          · rintro (rfl | ⟨hq, _⟩)
            · simp
            · simp [List.mem_cons.1 hq]
      · rw [if_neg (fun h => hk h.2)]
        have hxp : klt hs x.1 p.1 := (klt_total e).resolve_right hk
        refine ⟨List.pairwise_cons.2 ⟨fun q hq => ?_, i1⟩, fun q => ?_⟩
        · rcases (i2 q).1 hq with rfl | ⟨hq, _⟩
          · exact hxp
          · exact h1 q hq
        · constructor
          · intro hq
            rcases List.mem_cons.1 hq with rfl | hq
            · exact .inr ⟨by simp, e⟩
            · rcases (i2 q).1 hq with rfl | ⟨hq, hne⟩
              · exact .inl rfl
              · exact .inr ⟨by simp [hq], hne⟩
          · rintro (rfl | ⟨hq, hne⟩)
            · exact List.mem_cons_of_mem _ ((i2 q).2 (.inl rfl))
            · rcases List.mem_cons.1 hq with rfl | hq
              · simp
              · exact List.mem_cons_of_mem _ ((i2 q).2 (.inr ⟨hq, hne⟩))
theorem putL_uniq {p : Pr} {l m : List Pr} (hl : Srt hs l) (hm : Srt hs m) (h : ∀ q, q ∈ m ↔ q = p ∨ (q ∈ l ∧ q.1 ≠ p.1)) : m = putL hs p l :=
  hm.ext (putL_spec hl).1 fun q => (h q).trans ((putL_spec hl).2 q).symm
def hasB (k : Ky) (l : List Pr) : Bool := l.any (fun q => decide (q.1 = k))
theorem hasB_iff {k : Ky} {l : List Pr} : hasB k l = true ↔ ∃ q ∈ l, q.1 = k := by
  unfold hasB
  rw [List.any_eq_true]
  simp
theorem putL_length {p : Pr} : ∀ {l : List Pr}, Srt hs l → (putL hs p l).length = if hasB p.1 l = true then l.length else l.length + 1
  | [], _ => rfl
  | x :: l, h => by
    obtain ⟨h1, h2⟩ := List.pairwise_cons.1 h
    have ih := putL_length (p := p) h2
    unfold putL at ih ⊢
    unfold putD
    by_cases e : x.1 = p.1
    · rw [if_pos e, putD_true fun q hq => by rw [← e]; exact h1 q hq, if_pos (hasB_iff.2 ⟨x, by simp, e⟩)]
      rfl
    · rw [if_neg e]
      by_cases hk : klt hs p.1 x.1
      · rw [if_pos ⟨rfl, hk⟩, putD_true fun q hq => klt_trans hk (h1 q hq)]
        have hno : ¬ hasB p.1 (x :: l) = true := fun hm => by
          obtain ⟨q, hq, eq⟩ := hasB_iff.1 hm
          rcases List.mem_cons.1 hq with rfl | hq
          · exact e eq
          · exact klt_irrefl p.1 (by have := klt_trans hk (h1 q hq); rwa [eq] at this)
        rw [if_neg hno]
        rfl
      · rw [if_neg (fun h => hk h.2)]
        have hb : hasB p.1 (x :: l) = hasB p.1 l := by
          unfold hasB
          rw [List.any_cons, decide_eq_false e, Bool.false_or]
        rw [hb, List.length_cons, ih, List.length_cons]
        split <;> rfl
end

end Go.Proofs.YtfiledbjbpkleaaGreat

/- Several texts in one. -/
import Derived.Test.YthcpjehkjhpjfaaGreatMh03
import Derived.Lib.AppendZerosOnto
import Derived.Lib.Overlaps
import Derived.Laws.Externs
import Derived.Shelf.Spec.SlicesInsert
import Derived.Test.YthcpjehkjhpjfaaGreatMh01
import Derived.Laws.BitsAllLaws
import Derived.Lib.BitFns
import Derived.Test.YthcpjehkjhpjfaaGreatProg
import Derived.Laws.ShiftsVarLaws
import Derived.Lib.Hide
import Derived.LoopTactic
import Derived.BigQuiet
import Derived.Deep.LoopGhost
import Derived.Deep.Cut
namespace Go.Proofs.YthcpjehkjhpjfaaGreat
open Go.RowKit

theorem ins_infoI : (Tryz.prog.info? 3).map (fun i => (i.zero, i.size, i.bytes)) = some (some (.int .i64 0), 1, 8) := by kernel_rfl
theorem ins_sizeI : ∀ w, (Go.sizeOf 3).run Tryz.prog w = .ok 1 w := fun w => by kernel_rfl
theorem ins_zerosI : ((.int .i64 0) : Value).cells.size = 1 := by kernel_rfl
set_option maxRecDepth 100000 in
theorem vinsert_endI (v y : Value) (base n m : Nat) (xs ys : List Value) (w : World) (h : w.ownsRow base 3 1 v n xs) (hm : 0 < m) (hn : n + m ≤ 100000) (hy : Rd w y m ys) (hyl : ys.length = m * 1) (h1y : ∀ u ∈ ys, u.oneCell' = true) (hB : base ≤ w.heap.size) :
    Calls Tryz.prog 198 #[v, .int .i64 n, y] w fun e w' => ∃ v', e = .returned v' ∧ w'.ownsRow base 3 1 v' (n + m) (xs ++ ys) ∧ w.grownBy w' v.ownBlock ∧ (v'.ownBlock = v.ownBlock ∨ v'.ownBlock = some w.heap.size) := by
  obtain ⟨i1, hi1, hy0, hy1, hy2⟩ := info_parts ins_infoI
  obtain ⟨Y, yc, rfl, hyc⟩ := hy.form
  have hz1 : ¬ ((m : Int) = 0) := by omega
  have HY := Lib.hid hy
  rcases h.2 with ⟨rfl, rfl⟩ | ⟨g, cap, cur, rfl, _, _, hcap, hmx, _⟩
  · have HW := Lib.hid h
    clear h hy
    go_enter Tryz.func198, Tryz.ntmps198
    go_wp2_with (at_builtin; refine wpList_append_rd rfl _ _ 82 rfl base 3 i1 _ 1 8 Tryz.underlying82 hi1 hy0 hy1 hy2 rfl (by decide) _ 0 xs rfl HW.out _ m ys rfl HY.out hyl h1y (by unfold maxLen; omega) (by omega) hB (fun v' w' k1 k2 k3 => ?_))
    all_goals (go_ret; exact ⟨v', rfl, k1, k2, k3⟩)
  · have HW := Lib.hid h
    have hcm : cap ≤ 9223372036854775807 := by unfold maxLen at hmx; omega
    clear h hy
    go_enter Tryz.func198, Tryz.ntmps198
    go_wp2_with (at_builtin; refine wpList_append_rd rfl _ _ 82 rfl base 3 i1 _ 1 8 Tryz.underlying82 hi1 hy0 hy1 hy2 rfl (by decide) _ n xs rfl HW.out _ m ys rfl HY.out hyl h1y (by unfold maxLen; omega) (by omega) hB (fun v' w' k1 k2 k3 => ?_))
    all_goals (go_ret; exact ⟨v', rfl, k1, k2, k3⟩)

set_option maxRecDepth 100000 in
set_option maxHeartbeats 1600000 in
theorem vinsert_roomI (y : Value) (base g n cp i m : Nat) (xs ys : List Value) (w : World) (h : w.ownsRow base 3 1 (.slice (some ⟨g, 0, none⟩) n cp) n xs) (hi : i < n) (hm : 0 < m) (hroom : n + m ≤ cp) (hy : w.ownsRow 0 3 1 y m ys) (hne : y.ownBlock ≠ some g) (h1x : ∀ u ∈ xs, u.oneCell' = true) (h1y : ∀ u ∈ ys, u.oneCell' = true) :
    Calls Tryz.prog 198 #[.slice (some ⟨g, 0, none⟩) n cp, .int .i64 i, y] w fun e w' => ∃ v', e = .returned v' ∧ w'.ownsRow base 3 1 v' (n + m) (xs.take (i) ++ ys ++ xs.drop (i)) ∧ w.grownBy w' (some g) ∧ (v'.ownBlock = some g ∨ v'.ownBlock = some w.heap.size) := by
  obtain ⟨i1, hi1, hy0, hy1, hy2⟩ := info_parts ins_infoI
  have hsz : (Tryz.prog.info? 3).map (·.size) = some 1 := by rw [hi1]; simp [hy1]
  obtain ⟨vb, vc, rfl⟩ : ∃ vb vc, y = .slice (some ⟨vb, 0, none⟩) m vc := by
    rcases hy.2 with ⟨_, e⟩ | ⟨vb, vc, _, e, _⟩
    · omega
    · exact ⟨vb, vc, e⟩
  have hvb : vb ≠ g := fun e => hne (by rw [e]; rfl)
  obtain ⟨hsa, hfa⟩ := own_shape hy
  obtain ⟨hsb, hfb⟩ := own_shape h
  have hcp := own_cap h
  have hxl : xs.length = n * 1 := h.1
  have hyl : ys.length = m * 1 := hy.1
  obtain ⟨zs, hmore, htake⟩ := own_more h hroom
  have hzl : zs.length = (n + m) * 1 := hmore.1
  have hzx : ∀ j, j < n * 1 → zs[j]? = xs[j]? := fun j hj => by rw [← htake, List.getElem?_take_of_lt hj]
  obtain ⟨bs, hbs⟩ : ∃ bs, bs = xs.drop (i) := ⟨_, rfl⟩
  have hbl : bs.length = (n - i) * 1 := by rw [hbs, List.length_drop, hxl]; omega
  have hov : ∀ lb cb o, (callFunc 225 #[.slice (some ⟨vb, 0, none⟩) m vc, .slice (some ⟨g, o, none⟩) lb cb]).run Tryz.prog w = .ok (.value (.bool false)) w := fun lb cb o => by
    rw [run_callFunc_extern Tryz.func225 (by kernel_rfl) (by kernel_rfl) (by kernel_rfl) (e := Extern.SlicesOverlaps.overlaps #[82, 82] #[4]) (by kernel_rfl),
      Lib.run_overlaps_apart w 82 4 3 Tryz.underlying82 1 ins_sizeI ⟨vb, 0, none⟩ ⟨g, o, none⟩ m vc lb cb hvb _ _ _ _ hsa hsb (by have := hcp.1; simp only [ne_eq, Nat.mul_eq_zero]; omega) (hfa 0) (hfa _)]
    rfl
  have hsp : ∀ (W : World) (zs' : List Value), W.ownsRow base 3 1 (.slice (some ⟨g, 0, none⟩) (n + m) cp) (n + m) zs' → ∀ k, k < (n + m) * 1 → (W.cell? ⟨g, k, none⟩).isSome = true ∧ W.frozen? ⟨g, k, none⟩ = false := fun W zs' hW k hk => by
    obtain ⟨g', c', e1, _, h1, h2⟩ := own_at hW (j := k) (List.getElem?_eq_getElem (by rw [hW.1]; exact hk))
    simp only [Value.slice.injEq, Option.some.injEq, Addr.mk.injEq, and_true, true_and] at e1
    obtain ⟨rfl, _⟩ := e1
    exact ⟨by rw [h1]; rfl, h2⟩
  have hxc : ∀ j u, xs[j]? = some u → w.cell? ⟨g, j, none⟩ = some u := fun j u hu => by
    obtain ⟨g', c', e1, _, h1, _⟩ := own_at h hu
    simp only [Value.slice.injEq, Option.some.injEq, Addr.mk.injEq, and_true, true_and] at e1
    obtain ⟨rfl, _⟩ := e1
    exact h1
  have hyc : ∀ j u, ys[j]? = some u → w.cell? ⟨vb, j, none⟩ = some u := fun j u hu => by
    obtain ⟨g', c', e1, _, h1, _⟩ := own_at hy hu
    simp only [Value.slice.injEq, Option.some.injEq, Addr.mk.injEq, and_true, true_and] at e1
    obtain ⟨rfl, _⟩ := e1
    exact h1
  have hz1 : ¬ ((m : Int) = 0) := by omega
  have hz2 : ¬ ((i : Int) = (n : Int)) := by omega
  have hw1 : IntKind.i64.wrap ((i : Int) + (m : Int)) = (i : Int) + (m : Int) := by rw [IntKind.wrap_i64]; omega
  have hw2 : IntKind.i64.wrap ((n : Int) + (m : Int)) = (n : Int) + (m : Int) := by rw [IntKind.wrap_i64]; omega
  have hb1 : (0 : Int) ≤ (i : Int) + (m : Int) := by omega
  have hin : i ≤ n := by omega
  have htn : ((i : Int) + (m : Int)).toNat = i + m := by omega
  have hb2 : ¬ (cp = i + m) := by omega
  have hb3 : (i : Int) ≤ (n : Int) + (m : Int) := by omega
  have hb4 : ¬ (cp = i) := by omega
  have hc63 := hcp.2
  obtain ⟨W1, hW1⟩ : ∃ W1, W1 = w.drew.setCells g ((i + m)) bs := ⟨_, rfl⟩
  obtain ⟨zs1, o1, l1, at1⟩ := own_sets bs ((i + m)) w.drew _ hmore.drew (by rw [hbl]; omega)
  rw [← hW1] at o1
  have hcp1 : ∀ ty dc sc, (Builtin.copy_ #[82, 82] ty #[.slice (some ⟨g, (i + m), none⟩) (n + m - (i + m)) dc, .slice (some ⟨g, i, none⟩) (n + m - i) sc]).run Tryz.prog w.drew = .ok (goInt (Nat.min (n + m - i) (n + m - (i + m)) : Nat)) W1 := fun ty dc sc => by
    rw [hW1]
    exact run_copy_cellsN w.drew _ _ ty 3 1 g ((i + m)) (n + m - (i + m)) dc ⟨g, i, none⟩ (n + m - i) sc bs Tryz.underlying82 hsz (by rw [hbl]; simp only [Nat.min_def]; split <;> omega)
      (fun j v hj => by rw [Addr.add_lit]; exact hxc _ v (by rwa [hbs, List.getElem?_drop] at hj))
      (fun j hj => (hsp _ _ hmore _ (by omega)).1) (fun j hj => (hsp _ _ hmore _ (by omega)).2) (fun v hv => h1x v (by rw [hbs] at hv; exact List.mem_of_mem_drop hv))
  have hcp2 : ∀ (W : World), (∀ x, W.cell? x = W1.cell? x) → (∀ x, W.frozen? x = W1.frozen? x) → ∀ ty dc, (Builtin.copy_ #[82, 82] ty #[.slice (some ⟨g, i, none⟩) (n + m - i) dc, .slice (some ⟨vb, 0, none⟩) m vc]).run Tryz.prog W = .ok (goInt (Nat.min m (n + m - i) : Nat)) (W.setCells g (i) ys) := fun W hWc hWf ty dc =>
    run_copy_cellsN W _ _ ty 3 1 g (i) (n + m - i) dc ⟨vb, 0, none⟩ m vc ys Tryz.underlying82 hsz (by rw [hyl]; simp only [Nat.min_def]; split <;> omega)
      (fun j v hj => by
        rw [Addr.add_lit, hWc, hW1, World.cell?_setCells_out g _ _ _ _ (fun h _ => absurd h hvb), Nat.zero_add]
        exact hyc j v hj)
      (fun j hj => by rw [hWc]; exact (hsp _ _ o1 _ (by omega)).1) (fun j hj => by rw [hWf]; exact (hsp _ _ o1 _ (by omega)).2) h1y
  obtain ⟨zs2, o2, l2, at2⟩ := own_sets ys (i) W1 _ o1 (by omega)
  have hfin : zs2 = xs.take (i) ++ ys ++ bs := by
    rw [hbs]
    refine ins_eq xs ys zs2 (i) (by omega) (fun j hj => ?_) (fun j hj => ?_) (fun j => ?_)
    · rw [at2 j, if_neg (by omega), at1 j, if_neg (by omega)]
      exact hzx j (by omega)
    · rw [at2, if_pos (by omega), Nat.add_sub_cancel_left]
    · rw [at2, if_neg (by omega), at1]
      by_cases hj : i + ys.length + j < (i + m) + bs.length
      · rw [if_pos (by omega), hbs, List.getElem?_drop]
        congr 1; omega
      · rw [if_neg (by omega), List.getElem?_eq_none (by omega), List.getElem?_eq_none (by omega)]
  rw [hfin] at o2
  have hkp : w.grownBy (W1.setCells g (i) ys) (some g) := by
    have h1 : Kp (fun q => q = g) w (W1.setCells g (i) ys) := by
      rw [hW1]
      exact Kp.sets (F := fun q => q = g) (g := g) (.inl rfl) _ _ _ (Kp.sets (F := fun q => q = g) (g := g) (.inl rfl) _ _ _ (Kp.of_below (Below.refl _ w).drew _))
    exact ⟨h1.os, h1.tape, h1.output, h1.size, fun k hk hk2 => h1.block k hk (fun e => hk2 (by rw [e]))⟩
  have HR := Lib.hid (And.intro o2 hkp)
  rw [← hbs]
  have mixed : (Tryz.prog).follows .mixedOrders = true := by kernel_rfl
  clear o2 hkp hfin at2 at1 o1 hmore h hy hxc hyc hsp hzx hW1 hbs
  go_enter Tryz.func198, Tryz.ntmps198
  go_wp2_with (simp only [hov])
  go_region_law_o (refine step_copy_runI rfl _ _ 82 82 rfl _ _ (by simp [Act.eval, Act.put]) (by simp [Act.eval, Act.put]) (hcp1 _ _ _) ?_)
  go_wp2_with (at_builtin; refine wpList_copy_runI _ rfl _ _ 82 82 rfl _ _ rfl rfl (hcp2 _ (fun _ => rfl) (fun _ => rfl) _ _) ?_)
  go_ret
  exact ⟨_, rfl, HR.out.1, HR.out.2, .inl rfl⟩

set_option maxRecDepth 100000 in
set_option maxHeartbeats 1600000 in
theorem vinsert_growI (y : Value) (base g n cp i m : Nat) (xs ys : List Value) (w : World) (h : w.ownsRow base 3 1 (.slice (some ⟨g, 0, none⟩) n cp) n xs) (hi : i < n) (hm : 0 < m) (hroom : cp < n + m) (hn : n + m ≤ 100000) (hy : w.ownsRow 0 3 1 y m ys) (h1x : ∀ u ∈ xs, u.oneCell' = true) (h1y : ∀ u ∈ ys, u.oneCell' = true) (hB : base ≤ w.heap.size) :
    Calls Tryz.prog 198 #[.slice (some ⟨g, 0, none⟩) n cp, .int .i64 i, y] w fun e w' => ∃ v', e = .returned v' ∧ w'.ownsRow base 3 1 v' (n + m) (xs.take (i) ++ ys ++ xs.drop (i)) ∧ w.grownBy w' (some g) ∧ (v'.ownBlock = some g ∨ v'.ownBlock = some w.heap.size) := by
  obtain ⟨i1, hi1, hy0, hy1, hy2⟩ := info_parts ins_infoI
  have hsz : (Tryz.prog.info? 3).map (·.size) = some 1 := by rw [hi1]; simp [hy1]
  obtain ⟨vb, vc, rfl⟩ : ∃ vb vc, y = .slice (some ⟨vb, 0, none⟩) m vc := by
    rcases hy.2 with ⟨_, e⟩ | ⟨vb, vc, _, e, _⟩
    · omega
    · exact ⟨vb, vc, e⟩
  have hcp := own_cap h
  have hxl : xs.length = n * 1 := h.1
  have hyl : ys.length = m * 1 := hy.1
  have hgw : g < w.heap.size := (own_blk h g rfl).2
  have hvw : vb < w.heap.size := (own_blk hy vb rfl).2
  have hxc : ∀ j u, xs[j]? = some u → w.cell? ⟨g, j, none⟩ = some u := fun j u hu => by
    obtain ⟨g', c', e1, _, h1, _⟩ := own_at h hu
    simp only [Value.slice.injEq, Option.some.injEq, Addr.mk.injEq, and_true, true_and] at e1
    obtain ⟨rfl, _⟩ := e1
    exact h1
  have hyc : ∀ j u, ys[j]? = some u → w.cell? ⟨vb, j, none⟩ = some u := fun j u hu => by
    obtain ⟨g', c', e1, _, h1, _⟩ := own_at hy hu
    simp only [Value.slice.injEq, Option.some.injEq, Addr.mk.injEq, and_true, true_and] at e1
    obtain ⟨rfl, _⟩ := e1
    exact h1
  obtain ⟨bs, hbs⟩ : ∃ bs, bs = xs.drop (i) := ⟨_, rfl⟩
  obtain ⟨as_, has⟩ : ∃ as_, as_ = xs.take (i) := ⟨_, rfl⟩
  have hbl : bs.length = (n - i) * 1 := by rw [hbs, List.length_drop, hxl]; omega
  have hal : as_.length = i := by rw [has, List.length_take, hxl]; omega
  have hold : (Builtin.firstCells i1.size i (.slice (some ⟨g, 0, none⟩) i cp)).run Tryz.prog w.drew = .ok as_.toArray w.drew := by
    rw [hy1]
    exact run_firstCells_some (P := Tryz.prog) (w := w.drew) 1 i ⟨g, 0, none⟩ i cp as_ (by omega) (fun j v hj => by
      rw [Addr.add_lit, Nat.zero_add]
      refine hxc j v ?_
      rw [has, List.getElem?_take] at hj
      split at hj
      · exact hj
      · cases hj)
  have hkk : (n : Int) + (m : Int) - (i : Int) = ((n + m - i : Nat) : Int) := by omega
  have hik : i + (n + m - i) = n + m := by omega
  obtain ⟨G, hG⟩ : ∃ G, G = grownCap w (n + m) cp 3 := ⟨_, rfl⟩
  obtain ⟨ROW, hROW⟩ : ∃ ROW : Array Value, ROW = as_.toArray ++ Builtin.zeroCells ((.int .i64 0) : Value).cells (n + m - i) ++ Builtin.zeroCells ((.int .i64 0) : Value).cells (G - (n + m)) := ⟨_, rfl⟩
  have hrz : ∀ ty, (Builtin.append_ #[82, 3] ty #[.slice (some ⟨g, 0, none⟩) i cp, .int .i64 ((n : Int) + (m : Int) - (i : Int))]).run Tryz.prog w =
      .ok (.slice (some ⟨w.heap.size, 0, none⟩) (n + m) G) (w.drew.alloc (.cells ROW 3)) := fun ty => by
    have h := Lib.run_append_grow_zeros w 82 3 ty 3 i1 _ .i64 .i64 Tryz.underlying82 Tryz.underlying3 hi1 hy0 (some ⟨g, 0, none⟩) i cp as_ hold (n + m - i) (by omega) (by omega) (by omega) (by omega) (by rw [hy2]; omega) (by rw [hy2, hik]; exact growslice_fits hroom (by omega))
    rw [hik, ← hG, ← hROW] at h
    rw [hkk]
    exact h
  have hGn : n + m ≤ G := by rw [hG]; exact grownCap_ge w _ _ _
  have hGm : G ≤ maxLen := by rw [hG]; exact grownCap_le_maxLen w (n + m) cp 3 (by unfold maxLen; omega)
  have hG63 : G ≤ 9223372036854775807 := by unfold maxLen at hGm; omega
  have hzc : ∀ q, (Builtin.zeroCells ((.int .i64 0) : Value).cells q).size = q * 1 := fun q => by unfold Builtin.zeroCells; rw [Array.size_map, Array.size_range, ins_zerosI]
  have hRs : ROW.size = G * 1 := by
    rw [hROW, Array.size_append, Array.size_append, hzc, hzc]
    simp only [List.size_toArray, hal]
    omega
  have hRa : ∀ j, j < i → ROW.toList[j]? = xs[j]? := fun j hj => by
    rw [hROW, Array.toList_append, Array.toList_append, List.append_assoc, List.getElem?_append_left (by simpa [hal] using hj)]
    show as_[j]? = _
    rw [has, List.getElem?_take_of_lt hj]
  obtain ⟨W1, hW1⟩ : ∃ W1, W1 = w.drew.alloc (.cells ROW 3) := ⟨_, rfl⟩
  rw [← hW1] at hrz
  have o0 : W1.ownsRow base 3 1 (.slice (some ⟨w.heap.size, 0, none⟩) (n + m) G) (n + m) (ROW.toList.take ((n + m) * 1)) := by
    rw [hW1]
    refine ⟨by rw [List.length_take, Array.length_toList, hRs]; omega, .inr ⟨w.heap.size, G, ROW, rfl, hB, heap_alloc_new w.drew _, hGn, hGm, hRs, rfl⟩⟩
  have hsp : ∀ (W : World) (zs' : List Value), W.ownsRow base 3 1 (.slice (some ⟨w.heap.size, 0, none⟩) (n + m) G) (n + m) zs' → ∀ k, k < (n + m) * 1 → (W.cell? ⟨w.heap.size, k, none⟩).isSome = true ∧ W.frozen? ⟨w.heap.size, k, none⟩ = false := fun W zs' hW k hk => by
    obtain ⟨g', c', e1, _, h1, h2⟩ := own_at hW (j := k) (List.getElem?_eq_getElem (by rw [hW.1]; exact hk))
    simp only [Value.slice.injEq, Option.some.injEq, Addr.mk.injEq, and_true, true_and] at e1
    obtain ⟨rfl, _⟩ := e1
    exact ⟨by rw [h1]; rfl, h2⟩
  have hOb : ∀ b j v, b < w.heap.size → w.cell? ⟨b, j, none⟩ = some v → W1.cell? ⟨b, j, none⟩ = some v := fun b j v hb h => by rw [hW1, World.cell?_alloc_past (w := w.drew) _ b j hb]; exact h
  obtain ⟨zs1, o1, l1, at1⟩ := own_sets ys (i) W1 _ o0 (by omega)
  have hcpA : ∀ (W : World), (∀ x, W.cell? x = W1.cell? x) → (∀ x, W.frozen? x = W1.frozen? x) → ∀ ty dc, (Builtin.copy_ #[82, 82] ty #[.slice (some ⟨w.heap.size, i, none⟩) (n + m - i) dc, .slice (some ⟨vb, 0, none⟩) m vc]).run Tryz.prog W = .ok (goInt (Nat.min m (n + m - i) : Nat)) (W.setCells w.heap.size (i) ys) := fun W hWc hWf ty dc =>
    run_copy_cellsN W _ _ ty 3 1 w.heap.size (i) (n + m - i) dc ⟨vb, 0, none⟩ m vc ys Tryz.underlying82 hsz (by rw [hyl]; simp only [Nat.min_def]; split <;> omega)
      (fun j v hj => by rw [Addr.add_lit, hWc, Nat.zero_add]; exact hOb _ _ v hvw (hyc j v hj))
      (fun j hj => by rw [hWc]; exact (hsp _ _ o0 _ (by omega)).1) (fun j hj => by rw [hWf]; exact (hsp _ _ o0 _ (by omega)).2) h1y
  have hcpB : ∀ (W : World), (∀ x, W.cell? x = (W1.setCells w.heap.size (i) ys).cell? x) → (∀ x, W.frozen? x = (W1.setCells w.heap.size (i) ys).frozen? x) → ∀ ty dc sc, (Builtin.copy_ #[82, 82] ty #[.slice (some ⟨w.heap.size, (i + m), none⟩) (n + m - (i + m)) dc, .slice (some ⟨g, i, none⟩) (n - i) sc]).run Tryz.prog W = .ok (goInt (Nat.min (n - i) (n + m - (i + m)) : Nat)) (W.setCells w.heap.size ((i + m)) bs) := fun W hWc hWf ty dc sc =>
    run_copy_cellsN W _ _ ty 3 1 w.heap.size ((i + m)) (n + m - (i + m)) dc ⟨g, i, none⟩ (n - i) sc bs Tryz.underlying82 hsz (by rw [hbl]; simp only [Nat.min_def]; split <;> omega)
      (fun j v hj => by
        rw [Addr.add_lit, hWc, World.cell?_setCells_out _ _ _ _ _ (fun h _ => absurd h (by omega : g ≠ w.heap.size))]
        exact hOb _ _ v hgw (hxc _ v (by rwa [hbs, List.getElem?_drop] at hj)))
      (fun j hj => by rw [hWc]; exact (hsp _ _ o1 _ (by omega)).1) (fun j hj => by rw [hWf]; exact (hsp _ _ o1 _ (by omega)).2) (fun v hv => h1x v (by rw [hbs] at hv; exact List.mem_of_mem_drop hv))
  obtain ⟨zs2, o2, l2, at2⟩ := own_sets bs ((i + m)) (W1.setCells w.heap.size (i) ys).drew _ o1.drew (by omega)
  have hfin : zs2 = xs.take (i) ++ ys ++ bs := by
    rw [hbs]
    have hzl2 : zs2.length = (n + m) * 1 := o2.1
    refine ins_eq xs ys zs2 (i) (by omega) (fun j hj => ?_) (fun j hj => ?_) (fun j => ?_)
    · rw [at2 j, if_neg (by omega), at1 j, if_neg (by omega), List.getElem?_take_of_lt (by omega)]
      exact hRa j hj
    · rw [at2, if_neg (by omega), at1, if_pos (by omega), Nat.add_sub_cancel_left]
    · by_cases hj : i + ys.length + j < (i + m) + bs.length
      · rw [at2, if_pos (by omega), hbs, List.getElem?_drop]
        congr 1; omega
      · rw [List.getElem?_eq_none (by omega), List.getElem?_eq_none (by omega)]
  rw [hfin] at o2
  have hkp : w.grownBy ((W1.setCells w.heap.size (i) ys).drew.setCells w.heap.size ((i + m)) bs) (some g) := by
    have h1 : Kp (fun _ => False) w ((W1.setCells w.heap.size (i) ys).drew.setCells w.heap.size ((i + m)) bs) := by
      rw [hW1]
      exact Kp.sets (F := fun _ => False) (g := w.heap.size) (.inr (Nat.le_refl _)) _ _ _ (Kp.sets (F := fun _ => False) (g := w.heap.size) (.inr (Nat.le_refl _)) _ _ _ (Kp.of_below ((Below.refl _ w).drew.alloc (Nat.le_refl _) _) _)).drew
    exact ⟨h1.os, h1.tape, h1.output, h1.size, fun k hk _ => h1.block k hk (fun e => e)⟩
  have HR := Lib.hid (And.intro o2 hkp)
  have mixed : (Tryz.prog).follows .mixedOrders = true := by kernel_rfl
  have hz1 : ¬ ((m : Int) = 0) := by omega
  have hz2 : ¬ ((i : Int) = (n : Int)) := by omega
  have hz3 : (cp : Int) < (n : Int) + (m : Int) := by omega
  have hGi : ¬ (G = i) := by omega
  have hGim : ¬ (G = i + m) := by omega
  have hci : ¬ (cp = i) := by have := hcp.1; omega
  have hw1 : IntKind.i64.wrap ((i : Int) + (m : Int)) = (i : Int) + (m : Int) := by rw [IntKind.wrap_i64]; omega
  have hb1 : (0 : Int) ≤ (i : Int) + (m : Int) := by omega
  have hin : i ≤ n := by omega
  have htn : ((i : Int) + (m : Int)).toNat = i + m := by omega
  have hb3 : (i : Int) ≤ (n : Int) := by omega
  have hc63 := hcp.2
  have hF1 : ∀ x, ((W1.setCells w.heap.size (i) ys).drew).cell? x = (W1.setCells w.heap.size (i) ys).cell? x := fun x => rfl
  have hF2 : ∀ x, ((W1.setCells w.heap.size (i) ys).drew).frozen? x = (W1.setCells w.heap.size (i) ys).frozen? x := fun x => rfl
  rw [← has, ← hbs]
  rw [← has] at HR
  clear o2 hkp hfin at2 at1 o1 o0 h hy hxc hyc hsp hW1 hbs has hkk hik hold hROW hG hRs hRa hOb hzc
  go_enter Tryz.func198, Tryz.ntmps198
  go_wp2_with (first
    | (at_builtin; refine Lib.wpList_append_run _ rfl _ _ _ _ rfl _ _ rfl rfl _ _ (hrz _) ?_)
    | (at_builtin; refine wpList_copy_runI _ rfl _ _ 82 82 rfl _ _ rfl rfl (hcpA _ (fun _ => rfl) (fun _ => rfl) _ _) ?_)
    | (at_builtin; refine wpList_copy_runI _ rfl _ _ 82 82 rfl _ _ rfl rfl (hcpB _ (fun _ => rfl) (fun _ => rfl) _ _ _) ?_))
  go_region_law_o (refine step_copy_runI rfl _ _ 82 82 rfl (.slice (some ⟨w.heap.size, (i + m), none⟩) (n + m - (i + m)) (G - (i + m))) (.slice (some ⟨g, i, none⟩) (n - i) (cp - i)) (by simp [Act.eval, Act.put]) (by simp [Act.eval, Act.put]) (hcpB _ hF1 hF2 3 (G - (i + m)) (cp - i)) ?_)
  go_wp2
  go_ret
  exact ⟨_, rfl, HR.out.1, HR.out.2, .inr rfl⟩
theorem vinsertI (v y : Value) (base n i m : Nat) (xs ys : List Value) (w : World) (h : w.ownsRow base 3 1 v n xs) (hi : i ≤ n) (hm : 0 < m) (hn : n + m ≤ 100000) (hy : w.ownsRow 0 3 1 y m ys) (hne : ∀ q, v.ownBlock = some q → y.ownBlock ≠ some q) (h1x : ∀ u ∈ xs, u.oneCell' = true) (h1y : ∀ u ∈ ys, u.oneCell' = true) (hB : base ≤ w.heap.size) :
    Calls Tryz.prog 198 #[v, .int .i64 i, y] w fun e w' => ∃ v', e = .returned v' ∧ w'.ownsRow base 3 1 v' (n + m) (xs.take (i) ++ ys ++ xs.drop (i)) ∧ w.grownBy w' v.ownBlock ∧ (v'.ownBlock = v.ownBlock ∨ v'.ownBlock = some w.heap.size) := by
  by_cases e : i = n
  · subst e
    refine (vinsert_endI v y base i m xs ys w h hm hn (Rd.of_own hy) hy.1 h1y hB).mono ?_
    rintro e w' ⟨v', rfl, h1, h2, h3⟩
    refine ⟨v', rfl, ?_, h2, h3⟩
    rw [List.take_of_length_le (by have := h.1; omega), List.drop_eq_nil_of_le (by have := h.1; omega), List.append_nil]
    exact h1
  · obtain ⟨g, cp, rfl⟩ : ∃ g cp, v = .slice (some ⟨g, 0, none⟩) n cp := by
      rcases h.2 with ⟨_, e⟩ | ⟨g, cp, _, e, _⟩
      · omega
      · exact ⟨g, cp, e⟩
    by_cases hr : n + m ≤ cp
    · exact vinsert_roomI y base g n cp i m xs ys w h (by omega) hm hr hy (hne g rfl) h1x h1y
    · exact vinsert_growI y base g n cp i m xs ys w h (by omega) hm (by omega) hn hy h1x h1y hB

end Go.Proofs.YthcpjehkjhpjfaaGreat

namespace Go.Proofs.YthcpjehkjhpjfaaGreat

def cnt (n : Nat) : Nat → Nat
  | 0 => 0
  | i + 1 => cnt n i + (n.testBit i).toNat

theorem cnt_le (n : Nat) : ∀ i, cnt n i ≤ i
  | 0 => Nat.le_refl _
  | i + 1 => by have := cnt_le n i; have := Bool.toNat_le (n.testBit i); unfold cnt; omega
theorem cnt_congr {m n : Nat} : ∀ i, (∀ k, k < i → m.testBit k = n.testBit k) → cnt m i = cnt n i
  | 0, _ => rfl
  | i + 1, h => by unfold cnt; rw [cnt_congr i fun k hk => h k (by omega), h i (by omega)]
theorem cnt_add (n a : Nat) : ∀ b, cnt n (a + b) = cnt n a + cnt (n / 2 ^ a) b
  | 0 => by simp [cnt]
  | b + 1 => by
    have : (n / 2 ^ a).testBit b = n.testBit (a + b) := by rw [Nat.testBit_div_two_pow, Nat.add_comm]
    rw [← Nat.add_assoc, show cnt n (a + b + 1) = cnt n (a + b) + (n.testBit (a + b)).toNat from rfl, show cnt (n / 2 ^ a) (b + 1) = cnt (n / 2 ^ a) b + ((n / 2 ^ a).testBit b).toNat from rfl, cnt_add n a b, this]
    omega
theorem cnt_zero : ∀ i, cnt 0 i = 0
  | 0 => rfl
  | i + 1 => by unfold cnt; rw [cnt_zero i]; simp
theorem cnt_small {n a : Nat} (h : n < 2 ^ a) (b : Nat) : cnt n (a + b) = cnt n a := by
  rw [cnt_add, Nat.div_eq_of_lt h, cnt_zero]; rfl
theorem cnt_mod (n a : Nat) : cnt (n % 2 ^ a) a = cnt n a :=
  cnt_congr a fun k hk => by rw [Nat.testBit_mod_two_pow]; simp [hk]
theorem pop_cnt : ∀ f n, Lib.popAux f n = cnt n f
  | 0, _ => rfl
  | f + 1, n => by
    rw [Lib.popAux, pop_cnt f, Nat.add_comm f 1, cnt_add n 1 f]
    have : cnt n 1 = n % 2 := by
      unfold cnt cnt
      rw [Nat.testBit_zero]
      have : n % 2 = 0 ∨ n % 2 = 1 := by omega
      rcases this with h | h <;> simp [h]
    rw [this]
theorem pop8_cnt (x : Nat) (h : x < 256) : Lib.pop8 (x : Int) = (cnt x 8 : Nat) := by
  have e := Lib.pop8_eq ⟨x, h⟩
  simp only at e
  rw [e, Lib.onesCount, pop_cnt, show (64 : Nat) = 8 + 56 from rfl, cnt_small (a := 8) (by omega)]
theorem cnt_32 (n : Nat) : cnt n 32 = cnt (n / 16777216) 8 + cnt (n / 65536 % 256) 8 + cnt (n / 256 % 256) 8 + cnt (n % 256) 8 := by
  have h1 : cnt (n % 256) 8 = cnt n 8 := cnt_mod n 8
  have h2 : cnt (n / 256 % 256) 8 = cnt (n / 256) 8 := cnt_mod _ 8
  have h3 : cnt (n / 65536 % 256) 8 = cnt (n / 65536) 8 := cnt_mod _ 8
  rw [h1, h2, h3, show (32 : Nat) = 8 + (8 + (8 + 8)) from rfl, cnt_add n 8, cnt_add _ 8, cnt_add _ 8, Nat.div_div_eq_div_mul, Nat.div_div_eq_div_mul]
  show cnt n 8 + (cnt (n / 256) 8 + (cnt (n / 65536) 8 + cnt (n / 16777216) 8)) = _
  omega

theorem and_255 (x : Nat) (h : x < 4294967296) : bits .and .u32 (x : Int) 255 = ((x % 256 : Nat) : Int) := by
  have := u32_and_nat x 255 h (by decide)
  rw [nat_mask8] at this
  exact this
theorem and_1 (x : Nat) (h : x < 4294967296) : bits .and .u32 (x : Int) 1 = ((x % 2 : Nat) : Int) := by
  have := u32_and_nat x 1 h (by decide)
  rw [nat_mask1] at this
  exact this
theorem and_low (n i : Nat) (h : n < 4294967296) (hi : i < 32) : bits .and .u32 (n : Int) ((2 ^ i - 1 : Nat) : Int) = ((n % 2 ^ i : Nat) : Int) := by
  have hp : 2 ^ i ≤ 2 ^ 31 := Nat.pow_le_pow_right (by decide) (by omega)
  rw [u32_and_nat n _ h (by omega), Nat.and_two_pow_sub_one_eq_mod]
theorem cnt_low (n i : Nat) (hi : i ≤ 32) : cnt (n % 2 ^ i) 32 = cnt n i := by
  obtain ⟨j, hj⟩ : ∃ j, 32 = i + j := ⟨32 - i, by omega⟩
  rw [hj, cnt_small (Nat.mod_lt _ (Nat.two_pow_pos i)), cnt_mod]

def ofN : List Int → Nat
  | [] => 0
  | x :: l => (if 0 ≤ x ∧ x < 32 then 2 ^ x.toNat else 0) ||| ofN l
theorem pow_32 {k : Nat} (h : k < 32) : 2 ^ k < 4294967296 := Nat.pow_lt_pow_right (m := k) (n := 32) (by decide) h
theorem ofN_lt : ∀ l, ofN l < 4294967296
  | [] => by decide
  | x :: l => by
    unfold ofN
    refine Nat.or_lt_two_pow (n := 32) ?_ (ofN_lt l)
    split
    · exact pow_32 (by omega)
    · decide
theorem ofN_snoc : ∀ l x, ofN (l ++ [x]) = ofN l ||| (if 0 ≤ x ∧ x < 32 then 2 ^ x.toNat else 0)
  | [], x => by simp [ofN]
  | y :: l, x => by rw [List.cons_append]; unfold ofN; rw [ofN_snoc l x, Nat.or_assoc]
end Go.Proofs.YthcpjehkjhpjfaaGreat

namespace Go.Proofs.YthcpjehkjhpjfaaGreat
set_option maxRecDepth 100000
open Go.RowKit

def digB (i : Int) : Bool := decide (0 ≤ i) && decide (i < 32)

theorem is_digit (i : Int) (w : World) : Calls Tryz.prog 219 #[.int .i64 i] w fun e w' => e = .returned (.bool (digB i)) ∧ w = w' := by
  go_enter Tryz.func219, Tryz.ntmps219
  by_cases h : 0 ≤ i
  · go_wp2_with fail
    go_ret
    exact ⟨ret_bool (by simp [digB, h]), rfl⟩
  · go_wp2_with fail
    go_ret
    exact ⟨ret_bool (by simp [digB]; omega), rfl⟩

theorem has_bit (n k : Nat) (hn : n < 4294967296) : (bits .and .u32 ((n : Int) / 2 ^ k) 1 == 1) = n.testBit k := by
  have e : (n : Int) / 2 ^ k = ((n / 2 ^ k : Nat) : Int) := by simp
  rw [e, and_1 _ (Nat.lt_of_le_of_lt (Nat.div_le_self _ _) hn), Nat.testBit_eq_decide_div_mod_eq, Bool.eq_iff_iff]
  simp only [beq_iff_eq, decide_eq_true_eq]
  omega

theorem has (n : Nat) (hn : n < 4294967296) (k : Nat) (hk : k < 32) (w : World) : Calls Tryz.prog 188 #[.int .u32 n, .int .i64 k] w fun e w' => e = .returned (.bool (n.testBit k)) ∧ w = w' := by
  go_enter Tryz.func188, Tryz.ntmps188
  go_wp2_with fail
  refine (is_digit k _).mono ?_
  rintro e w' ⟨rfl, rfl⟩
  rw [show digB k = true by simp [digB]; omega]
  go_wp2_with fail
  go_ret
  exact ⟨ret_bool (has_bit n k hn), rfl⟩

theorem pop_fold : (⟨(([0, 1, 1, 2, 1, 2, 2, 3, 1, 2, 2, 3, 2, 3, 3, 4, 1, 2, 2, 3, 2, 3, 3, 4, 2, 3, 3, 4, 3, 4, 4, 5, 1, 2, 2, 3, 2, 3, 3, 4, 2, 3, 3, 4, 3, 4, 4, 5, 2, 3, 3, 4, 3, 4, 4, 5, 3, 4, 4, 5, 4, 5, 5, 6].append [1, 2, 2, 3, 2, 3, 3, 4, 2, 3, 3, 4, 3, 4, 4, 5, 2, 3, 3, 4, 3, 4, 4, 5, 3, 4, 4, 5, 4, 5, 5, 6, 2, 3, 3, 4, 3, 4, 4, 5, 3, 4, 4, 5, 4, 5, 5, 6, 3, 4, 4, 5, 4, 5, 5, 6, 4, 5, 5, 6, 5, 6, 6, 7]).append ([1, 2, 2, 3, 2, 3, 3, 4, 2, 3, 3, 4, 3, 4, 4, 5, 2, 3, 3, 4, 3, 4, 4, 5, 3, 4, 4, 5, 4, 5, 5, 6, 2, 3, 3, 4, 3, 4, 4, 5, 3, 4, 4, 5, 4, 5, 5, 6, 3, 4, 4, 5, 4, 5, 5, 6, 4, 5, 5, 6, 5, 6, 6, 7].append [2, 3, 3, 4, 3, 4, 4, 5, 3, 4, 4, 5, 4, 5, 5, 6, 3, 4, 4, 5, 4, 5, 5, 6, 4, 5, 5, 6, 5, 6, 6, 7, 3, 4, 4, 5, 4, 5, 5, 6, 4, 5, 5, 6, 5, 6, 6, 7, 4, 5, 5, 6, 5, 6, 6, 7, 5, 6, 6, 7, 6, 7, 7, 8])).toArray⟩ : ByteArray) = Lib.pop8tab := by kernel_rfl

theorem ones (n : Nat) (hn : n < 4294967296) (w : World) : Calls Tryz.prog 234 #[.int .u32 n] w fun e w' => e = .returned (.int .i64 (cnt n 32)) ∧ Gw w w' := by
  go_enter Tryz.func234, Tryz.ntmps234
  simp only [pop_fold]
  obtain ⟨a, ha⟩ : ∃ a, a = n / 16777216 := ⟨_, rfl⟩
  obtain ⟨b, hb⟩ : ∃ b, b = n / 65536 % 256 := ⟨_, rfl⟩
  obtain ⟨c, hc⟩ : ∃ c, c = n / 256 % 256 := ⟨_, rfl⟩
  obtain ⟨d, hd⟩ : ∃ d, d = n % 256 := ⟨_, rfl⟩
  have h0 : (n : Int) / 16777216 = (a : Int) := by omega
  have h1 : bits .and .u32 ((n : Int) / 65536) 255 = (b : Int) := by rw [hb]; exact and_255 (n / 65536) (by omega)
  have h2 : bits .and .u32 ((n : Int) / 256) 255 = (c : Int) := by rw [hc]; exact and_255 (n / 256) (by omega)
  have h3 : bits .and .u32 (n : Int) 255 = (d : Int) := by rw [hd]; exact and_255 n hn
  have e0 : (0 : Int) ≤ (a : Int) ∧ (a : Int) ≤ 255 := by omega
  have e1 : (0 : Int) ≤ (b : Int) ∧ (b : Int) ≤ 255 := by omega
  have e2 : (0 : Int) ≤ (c : Int) ∧ (c : Int) ≤ 255 := by omega
  have e3 : (0 : Int) ≤ (d : Int) ∧ (d : Int) ≤ 255 := by omega
  have p0 := pop8_cnt a (by omega)
  have p1 := pop8_cnt b (by omega)
  have p2 := pop8_cnt c (by omega)
  have p3 := pop8_cnt d (by omega)
  have HS := Lib.hid (show cnt n 32 = cnt a 8 + cnt b 8 + cnt c 8 + cnt d 8 by rw [ha, hb, hc, hd]; exact cnt_32 n)
  clear ha hb hc hd
  go_wp2_with fail
  go_quiet (fail)
  go_wp2_with fail
  go_ret
  have := HS.out
  have := cnt_le n 32
  exact ⟨ret_int (by omega), (Gw.refl w).drewN _⟩

theorem len (n : Nat) (hn : n < 4294967296) (w : World) : Calls Tryz.prog 218 #[.int .u32 n] w fun e w' => e = .returned (.int .i64 (cnt n 32)) ∧ Gw w w' := by
  go_enter Tryz.func218, Tryz.ntmps218
  go_wp2_with fail
  refine (ones n hn _).mono ?_
  rintro e w' ⟨rfl, g⟩
  go_wp2_with fail
  go_ret
  exact ⟨rfl, g⟩

theorem low_run (n k : Nat) (hn : n < 4294967296) (hk : k < 32) : bits .and .u32 (n : Int) ((2 ^ k - 1) % 4294967296) = ((n % 2 ^ k : Nat) : Int) := by
  rw [← and_low n k hn hk]
  have hp := pow_32 hk
  have h0 := Nat.two_pow_pos k
  have e : (2 : Int) ^ k = ((2 ^ k : Nat) : Int) := by simp
  congr 1
  rw [e]
  omega

def placeN (n : Nat) (i : Int) : Nat := cnt n (min i.toNat 32)

theorem place (n : Nat) (hn : n < 4294967296) (i : Int) (w : World) : Calls Tryz.prog 189 #[.int .u32 n, .int .i64 i] w fun e w' => e = .returned (.int .i64 (placeN n i)) ∧ Gw w w' := by
  go_enter Tryz.func189, Tryz.ntmps189
  by_cases h0 : i < 0
  · go_wp2_with fail
    go_ret
    exact ⟨ret_int (by unfold placeN; rw [show i.toNat = 0 by omega]; rfl), Gw.refl _⟩
  by_cases h1 : 32 ≤ i
  · go_wp2_with fail
    refine (len n hn _).mono ?_
    rintro e w' ⟨rfl, g⟩
    go_wp2_with fail
    go_ret
    exact ⟨ret_int (by unfold placeN; rw [show min i.toNat 32 = 32 by omega]), g⟩
  · obtain ⟨k, rfl⟩ := Int.eq_ofNat_of_zero_le (show 0 ≤ i by omega)
    go_wp2_with fail
    rw [low_run n k hn (by omega)]
    refine (len (n % 2 ^ k) (Nat.lt_of_le_of_lt (Nat.mod_le _ _) hn) _).mono ?_
    rintro e w' ⟨rfl, g⟩
    rw [cnt_low n k (by omega)]
    go_wp2_with fail
    go_ret
    exact ⟨ret_int (by unfold placeN; rw [show min (k : Int).toNat 32 = k by omega]), g⟩

def Ints (w : World) (A : Option Addr) (l : List Int) : Prop :=
  l = [] ∨ ∃ b o, A = some ⟨b, o, none⟩ ∧ b < w.heap.size ∧ ∀ (i : Nat) (x : Int), l[i]? = some x → w.cell? ⟨b, o + i, none⟩ = some (.int .i64 x)
theorem Ints.at {w : World} {A : Option Addr} {l : List Int} (h : Ints w A l) {i : Nat} {x : Int} (hi : l[i]? = some x) : ∃ b o, A = some ⟨b, o, none⟩ ∧ w.cell? ⟨b, o + i, none⟩ = some (.int .i64 x) := by
  rcases h with h | ⟨b, o, hA, _, hc⟩
  · subst h; simp at hi
  · exact ⟨b, o, hA, hc i x hi⟩
theorem Ints.below {w w' : World} {A : Option Addr} {l : List Int} (h : Ints w A l) (g : Below w.heap.size w w') : Ints w' A l := by
  rcases h with h | ⟨b, o, hA, hb, hc⟩
  · exact .inl h
  · exact .inr ⟨b, o, hA, Nat.lt_of_lt_of_le hb g.size, fun i x hx => (g.cell (p := ⟨b, _, none⟩) hb).trans (hc i x hx)⟩

theorem or_run (l : List Int) (x : Int) (h0 : 0 ≤ x) (h1 : x < 32) : bits .or .u32 (ofN l : Int) (2 ^ x.toNat % 4294967296) = (ofN (l ++ [x]) : Int) := by
  have hp := pow_32 (k := x.toNat) (by omega)
  have e : (2 : Int) ^ x.toNat = ((2 ^ x.toNat : Nat) : Int) := by simp
  have e2 : (2 : Int) ^ x.toNat % 4294967296 = ((2 ^ x.toNat : Nat) : Int) := by rw [e]; exact Int.emod_eq_of_lt (Int.natCast_nonneg _) (Int.ofNat_lt.2 hp)
  rw [e2, u32_or_nat _ _ (ofN_lt l) hp, ofN_snoc, if_pos ⟨h0, h1⟩]
theorem take_snoc {l : List Int} {j : Nat} {x : Int} (h : l[j]? = some x) : l.take (j + 1) = l.take j ++ [x] := by rw [List.take_add_one, h]; rfl

theorem of_run (A : Option Addr) (l : List Int) (c : Nat) (w : World) (hl : Ints w A l) (hn : l.length ≤ 4611686018427387904) :
    Calls Tryz.prog 227 #[.slice A l.length c] w fun e w' => e = .returned (.int .u32 (ofN l)) ∧ w = w' := by
  go_enter Tryz.func227, Tryz.ntmps227
  go_wp2_with fail
  go_loopw [3, 8] (fun s i wr => ∃ j : Nat, j ≤ l.length ∧ i = .int .i64 j ∧ s = .int .u32 (ofN (l.take j)) ∧ w = wr) (fun _ i _ => l.length - (intOf i).toNat)
  case atStart => exact ⟨0, Nat.zero_le _, rfl, rfl, rfl⟩
  case round =>
    obtain ⟨j, hj, rfl, rfl, rfl⟩ := hrel
    by_cases h1 : j < l.length
    · obtain ⟨x, hx⟩ : ∃ x, l[j]? = some x := ⟨_, List.getElem?_eq_getElem h1⟩
      obtain ⟨b, o, rfl, hc⟩ := hl.at hx
      have HX := Lib.hid hx
      clear hx
      obtain ⟨s, hs⟩ : ∃ s, s = ofN (l.take j) := ⟨_, rfl⟩
      rw [← hs]
      have HS := Lib.hid hs
      clear hs
      go_wp2_with fail
      refine (is_digit x _).mono ?_
      rintro e w' ⟨rfl, rfl⟩
      cases hd : digB x
      · go_wp2_with fail
        go_roundw
        case rel => exact ⟨j + 1, by omega, by go_num, by rw [take_snoc HX.out, ofN_snoc, HS.out, if_neg (by simp [digB] at hd; omega), Nat.or_zero], trivial⟩
        case measure => simp [intOf]; omega
      · have hd0 : 0 ≤ x ∧ x < 32 := by simpa [digB] using hd
        obtain ⟨k, rfl⟩ := Int.eq_ofNat_of_zero_le hd0.1
        go_wp2_with fail
        go_roundw
        case rel => exact ⟨j + 1, by omega, by go_num, by rw [take_snoc HX.out, HS.out, ← or_run _ _ hd0.1 hd0.2]; simp, trivial⟩
        case measure => simp [intOf]; omega
    · obtain rfl : j = l.length := by omega
      rw [List.take_length]
      go_wp2_with fail
      go_ret
      exact ⟨rfl, rfl⟩

theorem with_run (n : Nat) (hn : n < 4294967296) (A : Option Addr) (l : List Int) (c : Nat) (w : World) (hl : Ints w A l) (hlen : l.length ≤ 4611686018427387904) :
    Calls Tryz.prog 199 #[.int .u32 n, .slice A l.length c] w fun e w' => e = .returned (.int .u32 (n ||| ofN l : Nat)) ∧ w = w' := by
  go_enter Tryz.func199, Tryz.ntmps199
  go_wp2_with fail
  refine (of_run A l c _ hl hlen).mono ?_
  rintro e w' ⟨rfl, rfl⟩
  go_wp2_with fail
  go_ret
  exact ⟨ret_int (u32_or_nat n _ hn (ofN_lt l)), rfl⟩

theorem without_run (n : Nat) (hn : n < 4294967296) (A : Option Addr) (l : List Int) (c : Nat) (w : World) (hl : Ints w A l) (hlen : l.length ≤ 4611686018427387904) :
    Calls Tryz.prog 201 #[.int .u32 n, .slice A l.length c] w fun e w' => e = .returned (.int .u32 (n &&& (4294967295 - ofN l) : Nat)) ∧ w = w' := by
  go_enter Tryz.func201, Tryz.ntmps201
  go_wp2_with fail
  refine (of_run A l c _ hl hlen).mono ?_
  rintro e w' ⟨rfl, rfl⟩
  go_wp2_with fail
  go_ret
  exact ⟨ret_int (u32_andNot_nat n _ hn (ofN_lt l)), rfl⟩

theorem at_run (n : Nat) (k : Nat) (hk : k < 13) (w : World) : Calls Tryz.prog 158 #[.int .u64 n, .int .i64 k] w fun e w' => e = .returned (.int .i64 (n / 32 ^ k % 32 : Nat)) ∧ w = w' := by
  go_enter Tryz.func158, Tryz.ntmps158
  go_wp2_with fail
  go_ret
  have e1 : (n : Int) / 2 ^ (5 * k) = ((n / 32 ^ k : Nat) : Int) := by rw [show (32 : Nat) ^ k = 2 ^ (5 * k) by rw [Nat.pow_mul]]; simp
  obtain ⟨q, hq⟩ : ∃ q, q = n / 32 ^ k := ⟨_, rfl⟩
  exact ⟨ret_int (by rw [e1, ← hq, Int.tmod_eq_emod_of_nonneg (by omega)]; unfold wrap64; omega), rfl⟩


end Go.Proofs.YthcpjehkjhpjfaaGreat

namespace Go.Proofs.YthcpjehkjhpjfaaGreat
set_option maxRecDepth 100000
open Go.RowKit

theorem dg_run (g j : Nat) (hj : j < 13) (w : World) : Calls Tryz.prog 158 #[.int .u64 g, .int .i64 j] w fun e w' => e = .returned (.int .i64 (dg g j : Nat)) ∧ w = w' := at_run g j hj w

set_option maxHeartbeats 800000 in
theorem vparting (g h : Nat) (w : World) : Calls Tryz.prog 141 #[.int .u64 g, .int .u64 h] w fun e w' => e = .returned (.int .i64 (pt g h : Nat)) ∧ w = w' := by
  go_enter Tryz.func141, Tryz.ntmps141
  go_wp2_with fail
  go_loopw [5] (fun lev wr => ∃ j : Nat, lev = .int .i64 j ∧ j ≤ 13 ∧ (∀ i, i < j → dg g i = dg h i) ∧ w = wr) (fun lev _ => 13 - (intOf lev).toNat)
  case atStart => exact ⟨0, rfl, by omega, fun i hi => by omega, rfl⟩
  case round =>
    obtain ⟨j, rfl, hj, hall, rfl⟩ := hrel
    have HA := Lib.hid hall
    clear hall
    by_cases h13 : j < 13
    · have h13' : (j : Int) < 13 := by omega
      have HG := Lib.hid (dg_run g j h13)
      have HH := Lib.hid (dg_run h j h13)
      by_cases e : dg g j = dg h j
      · go_wp2_with (go_at_call 158; (first | (with_reducible_and_instances refine (HG.out _).mono ?_) | (with_reducible_and_instances refine (HH.out _).mono ?_)); rintro x w' ⟨rfl, rfl⟩)
        go_roundw
        case rel => exact ⟨j + 1, by go_num, by omega, fun i hi => by
          by_cases ei : i = j
          · rw [ei]; exact e
          · exact HA.out i (by omega), trivial⟩
        case measure => simp [intOf]; omega
      · have e' : ((dg g j : Int) == (dg h j : Int)) = false := by
          rw [beq_eq_false_iff_ne]; omega
        have hp : pt g h = j := pt_uniq hj HA.out (fun _ => e)
        have HP := Lib.hid hp
        clear hp
        go_wp2_with (go_at_call 158; (first | (with_reducible_and_instances refine (HG.out _).mono ?_) | (with_reducible_and_instances refine (HH.out _).mono ?_)); rintro x w' ⟨rfl, rfl⟩)
        go_ret
        exact ⟨by rw [HP.out]; rfl, rfl⟩
    · obtain rfl : j = 13 := by omega
      have HP := Lib.hid (show pt g h = 13 from pt_uniq (Nat.le_refl _) HA.out (fun h => absurd h (Nat.lt_irrefl _)))
      go_wp2_with fail
      go_ret
      exact ⟨by rw [HP.out]; rfl, rfl⟩

def Asks (w : World) (f : FuncId) (caps : Array Value) (n : Nat) (R : Nat → Value) : Prop :=
  (∀ (args : Array Value) (W : World), (callFunc f args).run Tryz.prog W = .ok (.enter f args) W) ∧ ∀ j, j < n → ∀ W, Below w.heap.size w W → Calls Tryz.prog f (#[.int .i64 (j : Nat)] ++ caps) W fun e W' => e = .returned (R j) ∧ Below W.heap.size W W'

theorem half (i j : Nat) : ((i : Int) + j) / 2 = (((i + j) / 2 : Nat) : Int) := by omega

theorem vSearch (f : FuncId) (caps : Array Value) (n t : Nat) (R : Nat → Bool) (w : World) (ha : Asks w f caps n (fun j => .bool (R j))) (hn : n ≤ 4611686018427387904) (ht : t ≤ n) (h0 : ∀ j, j < t → R j = false) (h1 : ∀ j, t ≤ j → j < n → R j = true) :
    Calls Tryz.prog 173 #[.int .i64 (n : Nat), .func (.func f) #[] caps] w fun e w' => e = .returned (.int .i64 (t : Nat)) ∧ Below w.heap.size w w' := by
  have HA := Lib.hid ha.2
  have hfe := ha.1
  clear ha
  go_enter Tryz.func173, Tryz.ntmps173
  go_wp2_with fail
  go_loopw [5, 6] (fun i j wr => ∃ a b : Nat, i = .int .i64 (a : Nat) ∧ j = .int .i64 (b : Nat) ∧ a ≤ t ∧ t ≤ b ∧ b ≤ n ∧ Below w.heap.size w wr) (fun i j _ => (intOf j).toNat - (intOf i).toNat)
  case atStart => exact ⟨0, n, rfl, rfl, Nat.zero_le _, ht, Nat.le_refl _, Below.refl _ _⟩
  case round =>
    obtain ⟨a, b, rfl, rfl, ha, hb, hbn, hw⟩ := hrel
    have HW := Lib.hid hw
    clear hw
    by_cases hab : a < b
    · have hab' : (a : Int) < (b : Int) := by omega
      have hh := half a b
      obtain ⟨m, hm⟩ : ∃ m, m = (a + b) / 2 := ⟨_, rfl⟩
      rw [← hm] at hh
      have hm1 : a ≤ m ∧ m < b := by omega
      clear hm
      have HC := Lib.hid (HA.out m (by omega) _ HW.out)
      go_upto_region 4 with fail
      clear hh
      cases e : R m with
      | true =>
        rw [e] at HC
        go_wp2_with (refine HC.out.mono ?_; rintro x w' ⟨rfl, hb'⟩; have HB := Lib.hid (HW.out.trans (hb'.mono HW.out.size)); clear hb')
        go_roundw
        case rel => exact ⟨a, m, rfl, rfl, ha, Nat.le_of_not_lt fun h => (by rw [h0 m h] at e; cases e), by omega, HB.out⟩
        case measure => simp [intOf]; omega
      | false =>
        rw [e] at HC
        go_wp2_with (refine HC.out.mono ?_; rintro x w' ⟨rfl, hb'⟩; have HB := Lib.hid (HW.out.trans (hb'.mono HW.out.size)); clear hb')
        go_roundw
        case rel => exact ⟨m + 1, b, by go_num, rfl, Nat.lt_of_not_le fun h => (by rw [h1 m h (by omega)] at e; cases e), hb, hbn, HB.out⟩
        case measure => simp [intOf]; omega
    · obtain rfl : a = t := by omega
      have hab' : ¬ (a : Int) < (b : Int) := by omega
      go_wp2_with fail
      go_ret
      exact ⟨rfl, HW.out⟩

theorem vFind (f : FuncId) (caps : Array Value) (n t : Nat) (C : Nat → Int) (w : World) (ha : Asks w f caps n (fun j => .int .i64 (C j))) (hn : n ≤ 4611686018427387904) (ht : t ≤ n) (h0 : ∀ j, j < t → 0 < C j) (h1 : ∀ j, t ≤ j → j < n → C j ≤ 0) :
    Calls Tryz.prog 190 #[.int .i64 (n : Nat), .func (.func f) #[] caps] w fun e w' => e = .returned (.tuple #[.int .i64 (t : Nat), .bool (decide (t < n ∧ C t = 0))]) ∧ Below w.heap.size w w' := by
  have HA := Lib.hid ha.2
  have hfe := ha.1
  clear ha
  go_enter Tryz.func190, Tryz.ntmps190
  go_wp2_with fail
  go_loopw [4, 6] (fun i j wr => ∃ a b : Nat, i = .int .i64 (a : Nat) ∧ j = .int .i64 (b : Nat) ∧ a ≤ t ∧ t ≤ b ∧ b ≤ n ∧ Below w.heap.size w wr) (fun i j _ => (intOf j).toNat - (intOf i).toNat)
  case atStart => exact ⟨0, n, rfl, rfl, Nat.zero_le _, ht, Nat.le_refl _, Below.refl _ _⟩
  case round =>
    obtain ⟨a, b, rfl, rfl, ha, hb, hbn, hw⟩ := hrel
    have HW := Lib.hid hw
    clear hw
    by_cases hab : a < b
    · have hab' : (a : Int) < (b : Int) := by omega
      have hh := half a b
      obtain ⟨m, hm⟩ : ∃ m, m = (a + b) / 2 := ⟨_, rfl⟩
      rw [← hm] at hh
      have hm1 : a ≤ m ∧ m < b := by omega
      clear hm
      have HC := Lib.hid (HA.out m (by omega) _ HW.out)
      go_upto_region 4 with fail
      clear hh
      by_cases e : 0 < C m
      · go_wp2_with (refine HC.out.mono ?_; rintro x w' ⟨rfl, hb'⟩; have HB := Lib.hid (HW.out.trans (hb'.mono HW.out.size)); clear hb')
        go_roundw
        case rel => exact ⟨m + 1, b, by go_num, rfl, Nat.lt_of_not_le fun h => (by have := h1 m h (by omega); omega), hb, hbn, HB.out⟩
        case measure => simp [intOf]; omega
      · go_wp2_with (refine HC.out.mono ?_; rintro x w' ⟨rfl, hb'⟩; have HB := Lib.hid (HW.out.trans (hb'.mono HW.out.size)); clear hb')
        go_roundw
        case rel => exact ⟨a, m, rfl, rfl, ha, Nat.le_of_not_lt fun h => (by have := h0 m h; omega), by omega, HB.out⟩
        case measure => simp [intOf]; omega
    · obtain rfl : a = t := by omega
      have hab' : ¬ (a : Int) < (b : Int) := by omega
      have ht2 := ht
      by_cases htn : a < n
      · have htn' : (a : Int) < (n : Int) := by omega
        have HC := Lib.hid (HA.out a htn _ HW.out)
        have hq : decide (a < n ∧ C a = 0) = (C a == 0) := by
          rw [Bool.eq_iff_iff, decide_eq_true_eq, beq_iff_eq]
          exact ⟨fun h => h.2, fun h => ⟨htn, h⟩⟩
        have HQ := Lib.hid hq
        clear hq
        go_wp2_with (refine HC.out.mono ?_; rintro x w' ⟨rfl, hb'⟩; have HB := Lib.hid (HW.out.trans (hb'.mono HW.out.size)); clear hb')
        exact bodyPost_ret (v := .tuple #[.int .i64 (a : Nat), .bool (C a == 0)]) (by simp [results, Tryz.results190, go_sem]) rfl ⟨by rw [HQ.out], HB.out⟩
      · have htn' : ¬ (a : Int) < (n : Int) := by omega
        have hq : decide (a < n ∧ C a = 0) = false := decide_eq_false (fun h => htn h.1)
        have HQ := Lib.hid hq
        clear hq
        go_wp2_with fail
        exact bodyPost_ret (v := .tuple #[.int .i64 (a : Nat), .bool false]) (by simp [results, Tryz.results190, go_sem]) rfl ⟨by first | rfl | rw [HQ.out], HW.out⟩

end Go.Proofs.YthcpjehkjhpjfaaGreat

/- Several texts in one. -/
import Derived.Test.YtdddhmipifkepaaGreatMq01
import Derived.Lib.AppendZerosOnto
import Derived.Lib.Overlaps
import Derived.Laws.Externs
import Derived.Shelf.Spec.SlicesInsert
import Derived.Test.YtdddhmipifkepaaGreatMq02
import Derived.Test.YtdddhmipifkepaaGreatMq12
import Derived.Test.YtdddhmipifkepaaGreatMq11
import Derived.Deep.RegionLaw
import Derived.Lib.SliceRun
import Derived.Test.YtdddhmipifkepaaGreatMq08
namespace Go.Proofs.YtdddhmipifkepaaGreat
open Go.RowKit

theorem ins_infoV : (Tryz.prog.info? 36).map (fun i => (i.zero, i.size, i.bytes)) = some (some (.agg #[.int .u8 0, .int .i64 0, .string ⟨#[]⟩]), 3, 32) := by kernel_rfl
theorem ins_sizeV : ∀ w, (Go.sizeOf 36).run Tryz.prog w = .ok 3 w := fun w => by kernel_rfl
theorem ins_zerosV : ((.agg #[.int .u8 0, .int .i64 0, .string ⟨#[]⟩]) : Value).cells.size = 3 := by kernel_rfl
set_option maxRecDepth 100000 in
theorem vinsert_endV (v y : Value) (base n m : Nat) (xs ys : List Value) (w : World) (h : w.ownsRow base 36 3 v n xs) (hm : 0 < m) (hn : n + m ≤ 100000) (hy : Rd w y m ys) (hyl : ys.length = m * 3) (h1y : ∀ u ∈ ys, u.oneCell' = true) (hB : base ≤ w.heap.size) :
    Calls Tryz.prog 228 #[v, .int .i64 n, y] w fun e w' => ∃ v', e = .returned v' ∧ w'.ownsRow base 36 3 v' (n + m) (xs ++ ys) ∧ w.grownBy w' v.ownBlock ∧ (v'.ownBlock = v.ownBlock ∨ v'.ownBlock = some w.heap.size) := by
  obtain ⟨i1, hi1, hy0, hy1, hy2⟩ := info_parts ins_infoV
  obtain ⟨Y, yc, rfl, hyc⟩ := hy.form
  have hz1 : ¬ ((m : Int) = 0) := by omega
  have HY := Lib.hid hy
  rcases h.2 with ⟨rfl, rfl⟩ | ⟨g, cap, cur, rfl, _, _, hcap, hmx, _⟩
  · have HW := Lib.hid h
    clear h hy
    go_enter Tryz.func228, Tryz.ntmps228
    go_wp2_with (at_builtin; refine wpList_append_rd rfl _ _ 50 rfl base 36 i1 _ 3 32 Tryz.underlying50 hi1 hy0 hy1 hy2 rfl (by decide) _ 0 xs rfl HW.out _ m ys rfl HY.out hyl h1y (by unfold maxLen; omega) (by omega) hB (fun v' w' k1 k2 k3 => ?_))
    all_goals (go_ret; exact ⟨v', rfl, k1, k2, k3⟩)
  · have HW := Lib.hid h
    have hcm : cap ≤ 9223372036854775807 := by unfold maxLen at hmx; omega
    clear h hy
    go_enter Tryz.func228, Tryz.ntmps228
    go_wp2_with (at_builtin; refine wpList_append_rd rfl _ _ 50 rfl base 36 i1 _ 3 32 Tryz.underlying50 hi1 hy0 hy1 hy2 rfl (by decide) _ n xs rfl HW.out _ m ys rfl HY.out hyl h1y (by unfold maxLen; omega) (by omega) hB (fun v' w' k1 k2 k3 => ?_))
    all_goals (go_ret; exact ⟨v', rfl, k1, k2, k3⟩)

set_option maxRecDepth 100000 in
set_option maxHeartbeats 1600000 in
theorem vinsert_roomV (y : Value) (base g n cp i m : Nat) (xs ys : List Value) (w : World) (h : w.ownsRow base 36 3 (.slice (some ⟨g, 0, none⟩) n cp) n xs) (hi : i < n) (hm : 0 < m) (hroom : n + m ≤ cp) (hy : w.ownsRow 0 36 3 y m ys) (hne : y.ownBlock ≠ some g) (h1x : ∀ u ∈ xs, u.oneCell' = true) (h1y : ∀ u ∈ ys, u.oneCell' = true) :
    Calls Tryz.prog 228 #[.slice (some ⟨g, 0, none⟩) n cp, .int .i64 i, y] w fun e w' => ∃ v', e = .returned v' ∧ w'.ownsRow base 36 3 v' (n + m) (xs.take (i * 3) ++ ys ++ xs.drop (i * 3)) ∧ w.grownBy w' (some g) ∧ (v'.ownBlock = some g ∨ v'.ownBlock = some w.heap.size) := by
  obtain ⟨i1, hi1, hy0, hy1, hy2⟩ := info_parts ins_infoV
  have hsz : (Tryz.prog.info? 36).map (·.size) = some 3 := by rw [hi1]; simp [hy1]
  obtain ⟨vb, vc, rfl⟩ : ∃ vb vc, y = .slice (some ⟨vb, 0, none⟩) m vc := by
    rcases hy.2 with ⟨_, e⟩ | ⟨vb, vc, _, e, _⟩
    · omega
    · exact ⟨vb, vc, e⟩
  have hvb : vb ≠ g := fun e => hne (by rw [e]; rfl)
  obtain ⟨hsa, hfa⟩ := own_shape hy
  obtain ⟨hsb, hfb⟩ := own_shape h
  have hcp := own_cap h
  have hxl : xs.length = n * 3 := h.1
  have hyl : ys.length = m * 3 := hy.1
  obtain ⟨zs, hmore, htake⟩ := own_more h hroom
  have hzl : zs.length = (n + m) * 3 := hmore.1
  have hzx : ∀ j, j < n * 3 → zs[j]? = xs[j]? := fun j hj => by rw [← htake, List.getElem?_take_of_lt hj]
  obtain ⟨bs, hbs⟩ : ∃ bs, bs = xs.drop (i * 3) := ⟨_, rfl⟩
  have hbl : bs.length = (n - i) * 3 := by rw [hbs, List.length_drop, hxl]; omega
  have hov : ∀ lb cb o, (callFunc 260 #[.slice (some ⟨vb, 0, none⟩) m vc, .slice (some ⟨g, o, none⟩) lb cb]).run Tryz.prog w = .ok (.value (.bool false)) w := fun lb cb o => by
    rw [run_callFunc_extern Tryz.func260 (by kernel_rfl) (by kernel_rfl) (by kernel_rfl) (e := Extern.SlicesOverlaps.overlaps #[50, 50] #[4]) (by kernel_rfl),
      Lib.run_overlaps_apart w 50 4 36 Tryz.underlying50 3 ins_sizeV ⟨vb, 0, none⟩ ⟨g, o, none⟩ m vc lb cb hvb _ _ _ _ hsa hsb (by have := hcp.1; simp only [ne_eq, Nat.mul_eq_zero]; omega) (hfa 0) (hfa _)]
    rfl
  have hsp : ∀ (W : World) (zs' : List Value), W.ownsRow base 36 3 (.slice (some ⟨g, 0, none⟩) (n + m) cp) (n + m) zs' → ∀ k, k < (n + m) * 3 → (W.cell? ⟨g, k, none⟩).isSome = true ∧ W.frozen? ⟨g, k, none⟩ = false := fun W zs' hW k hk => by
    obtain ⟨g', c', e1, _, h1, h2⟩ := own_at hW (j := k) (List.getElem?_eq_getElem (by rw [hW.1]; exact hk))
    simp only [Value.slice.injEq, Option.some.injEq, Addr.mk.injEq, and_true, true_and] at e1
    obtain ⟨rfl, _⟩ := e1
    exact ⟨by rw [h1]; rfl, h2⟩
  have hxc : ∀ j u, xs[j]? = some u → w.cell? ⟨g, j, none⟩ = some u := fun j u hu => by
    obtain ⟨g', c', e1, _, h1, _⟩ := own_at h hu
    simp only [Value.slice.injEq, Option.some.injEq, Addr.mk.injEq, and_true, true_and] at e1
    obtain ⟨rfl, _⟩ := e1
    exact h1
  have hyc : ∀ j u, ys[j]? = some u → w.cell? ⟨vb, j, none⟩ = some u := fun j u hu => by
    obtain ⟨g', c', e1, _, h1, _⟩ := own_at hy hu
    simp only [Value.slice.injEq, Option.some.injEq, Addr.mk.injEq, and_true, true_and] at e1
    obtain ⟨rfl, _⟩ := e1
    exact h1
  have hz1 : ¬ ((m : Int) = 0) := by omega
  have hz2 : ¬ ((i : Int) = (n : Int)) := by omega
  have hw1 : IntKind.i64.wrap ((i : Int) + (m : Int)) = (i : Int) + (m : Int) := by rw [IntKind.wrap_i64]; omega
  have hw2 : IntKind.i64.wrap ((n : Int) + (m : Int)) = (n : Int) + (m : Int) := by rw [IntKind.wrap_i64]; omega
  have hb1 : (0 : Int) ≤ (i : Int) + (m : Int) := by omega
  have hin : i ≤ n := by omega
  have htn : ((i : Int) + (m : Int)).toNat = i + m := by omega
  have hb2 : ¬ (cp = i + m) := by omega
  have hb3 : (i : Int) ≤ (n : Int) + (m : Int) := by omega
  have hb4 : ¬ (cp = i) := by omega
  have hc63 := hcp.2
  obtain ⟨W1, hW1⟩ : ∃ W1, W1 = w.drew.setCells g ((i + m) * 3) bs := ⟨_, rfl⟩
  obtain ⟨zs1, o1, l1, at1⟩ := own_sets bs ((i + m) * 3) w.drew _ hmore.drew (by rw [hbl]; omega)
  rw [← hW1] at o1
  have hcp1 : ∀ ty dc sc, (Builtin.copy_ #[50, 50] ty #[.slice (some ⟨g, (i + m) * 3, none⟩) (n + m - (i + m)) dc, .slice (some ⟨g, i * 3, none⟩) (n + m - i) sc]).run Tryz.prog w.drew = .ok (goInt (Nat.min (n + m - i) (n + m - (i + m)) : Nat)) W1 := fun ty dc sc => by
    rw [hW1]
    exact run_copy_cellsN w.drew _ _ ty 36 3 g ((i + m) * 3) (n + m - (i + m)) dc ⟨g, i * 3, none⟩ (n + m - i) sc bs Tryz.underlying50 hsz (by rw [hbl]; simp only [Nat.min_def]; split <;> omega)
      (fun j v hj => by rw [Addr.add_lit]; exact hxc _ v (by rwa [hbs, List.getElem?_drop] at hj))
      (fun j hj => (hsp _ _ hmore _ (by omega)).1) (fun j hj => (hsp _ _ hmore _ (by omega)).2) (fun v hv => h1x v (by rw [hbs] at hv; exact List.mem_of_mem_drop hv))
  have hcp2 : ∀ (W : World), (∀ x, W.cell? x = W1.cell? x) → (∀ x, W.frozen? x = W1.frozen? x) → ∀ ty dc, (Builtin.copy_ #[50, 50] ty #[.slice (some ⟨g, i * 3, none⟩) (n + m - i) dc, .slice (some ⟨vb, 0, none⟩) m vc]).run Tryz.prog W = .ok (goInt (Nat.min m (n + m - i) : Nat)) (W.setCells g (i * 3) ys) := fun W hWc hWf ty dc =>
    run_copy_cellsN W _ _ ty 36 3 g (i * 3) (n + m - i) dc ⟨vb, 0, none⟩ m vc ys Tryz.underlying50 hsz (by rw [hyl]; simp only [Nat.min_def]; split <;> omega)
      (fun j v hj => by
        rw [Addr.add_lit, hWc, hW1, World.cell?_setCells_out g _ _ _ _ (fun h _ => absurd h hvb), Nat.zero_add]
        exact hyc j v hj)
      (fun j hj => by rw [hWc]; exact (hsp _ _ o1 _ (by omega)).1) (fun j hj => by rw [hWf]; exact (hsp _ _ o1 _ (by omega)).2) h1y
  obtain ⟨zs2, o2, l2, at2⟩ := own_sets ys (i * 3) W1 _ o1 (by omega)
  have hfin : zs2 = xs.take (i * 3) ++ ys ++ bs := by
    rw [hbs]
    refine ins_eq xs ys zs2 (i * 3) (by omega) (fun j hj => ?_) (fun j hj => ?_) (fun j => ?_)
    · rw [at2 j, if_neg (by omega), at1 j, if_neg (by omega)]
      exact hzx j (by omega)
    · rw [at2, if_pos (by omega), Nat.add_sub_cancel_left]
    · rw [at2, if_neg (by omega), at1]
      by_cases hj : i * 3 + ys.length + j < (i + m) * 3 + bs.length
      · rw [if_pos (by omega), hbs, List.getElem?_drop]
        congr 1; omega
      · rw [if_neg (by omega), List.getElem?_eq_none (by omega), List.getElem?_eq_none (by omega)]
  rw [hfin] at o2
  have hkp : w.grownBy (W1.setCells g (i * 3) ys) (some g) := by
    have h1 : Kp (fun q => q = g) w (W1.setCells g (i * 3) ys) := by
      rw [hW1]
      exact Kp.sets (F := fun q => q = g) (g := g) (.inl rfl) _ _ _ (Kp.sets (F := fun q => q = g) (g := g) (.inl rfl) _ _ _ (Kp.of_below (Below.refl _ w).drew _))
    exact ⟨h1.os, h1.tape, h1.output, h1.size, fun k hk hk2 => h1.block k hk (fun e => hk2 (by rw [e]))⟩
  have HR := Lib.hid (And.intro o2 hkp)
  rw [← hbs]
  have mixed : (Tryz.prog).follows .mixedOrders = true := by kernel_rfl
  clear o2 hkp hfin at2 at1 o1 hmore h hy hxc hyc hsp hzx hW1 hbs
  go_enter Tryz.func228, Tryz.ntmps228
  go_wp2_with (simp only [hov])
  go_region_law_o (refine step_copy_runI rfl _ _ 50 50 rfl _ _ (by simp [Act.eval, Act.put]) (by simp [Act.eval, Act.put]) (hcp1 _ _ _) ?_)
  go_wp2_with (at_builtin; refine wpList_copy_runI _ rfl _ _ 50 50 rfl _ _ rfl rfl (hcp2 _ (fun _ => rfl) (fun _ => rfl) _ _) ?_)
  go_ret
  exact ⟨_, rfl, HR.out.1, HR.out.2, .inl rfl⟩

set_option maxRecDepth 100000 in
set_option maxHeartbeats 1600000 in
theorem vinsert_growV (y : Value) (base g n cp i m : Nat) (xs ys : List Value) (w : World) (h : w.ownsRow base 36 3 (.slice (some ⟨g, 0, none⟩) n cp) n xs) (hi : i < n) (hm : 0 < m) (hroom : cp < n + m) (hn : n + m ≤ 100000) (hy : w.ownsRow 0 36 3 y m ys) (h1x : ∀ u ∈ xs, u.oneCell' = true) (h1y : ∀ u ∈ ys, u.oneCell' = true) (hB : base ≤ w.heap.size) :
    Calls Tryz.prog 228 #[.slice (some ⟨g, 0, none⟩) n cp, .int .i64 i, y] w fun e w' => ∃ v', e = .returned v' ∧ w'.ownsRow base 36 3 v' (n + m) (xs.take (i * 3) ++ ys ++ xs.drop (i * 3)) ∧ w.grownBy w' (some g) ∧ (v'.ownBlock = some g ∨ v'.ownBlock = some w.heap.size) := by
  obtain ⟨i1, hi1, hy0, hy1, hy2⟩ := info_parts ins_infoV
  have hsz : (Tryz.prog.info? 36).map (·.size) = some 3 := by rw [hi1]; simp [hy1]
  obtain ⟨vb, vc, rfl⟩ : ∃ vb vc, y = .slice (some ⟨vb, 0, none⟩) m vc := by
    rcases hy.2 with ⟨_, e⟩ | ⟨vb, vc, _, e, _⟩
    · omega
    · exact ⟨vb, vc, e⟩
  have hcp := own_cap h
  have hxl : xs.length = n * 3 := h.1
  have hyl : ys.length = m * 3 := hy.1
  have hgw : g < w.heap.size := (own_blk h g rfl).2
  have hvw : vb < w.heap.size := (own_blk hy vb rfl).2
  have hxc : ∀ j u, xs[j]? = some u → w.cell? ⟨g, j, none⟩ = some u := fun j u hu => by
    obtain ⟨g', c', e1, _, h1, _⟩ := own_at h hu
    simp only [Value.slice.injEq, Option.some.injEq, Addr.mk.injEq, and_true, true_and] at e1
    obtain ⟨rfl, _⟩ := e1
    exact h1
  have hyc : ∀ j u, ys[j]? = some u → w.cell? ⟨vb, j, none⟩ = some u := fun j u hu => by
    obtain ⟨g', c', e1, _, h1, _⟩ := own_at hy hu
    simp only [Value.slice.injEq, Option.some.injEq, Addr.mk.injEq, and_true, true_and] at e1
    obtain ⟨rfl, _⟩ := e1
    exact h1
  obtain ⟨bs, hbs⟩ : ∃ bs, bs = xs.drop (i * 3) := ⟨_, rfl⟩
  obtain ⟨as_, has⟩ : ∃ as_, as_ = xs.take (i * 3) := ⟨_, rfl⟩
  have hbl : bs.length = (n - i) * 3 := by rw [hbs, List.length_drop, hxl]; omega
  have hal : as_.length = i * 3 := by rw [has, List.length_take, hxl]; omega
  have hold : (Builtin.firstCells i1.size i (.slice (some ⟨g, 0, none⟩) i cp)).run Tryz.prog w.drew = .ok as_.toArray w.drew := by
    rw [hy1]
    exact run_firstCells_some (P := Tryz.prog) (w := w.drew) 3 i ⟨g, 0, none⟩ i cp as_ (by omega) (fun j v hj => by
      rw [Addr.add_lit, Nat.zero_add]
      refine hxc j v ?_
      rw [has, List.getElem?_take] at hj
      split at hj
      · exact hj
      · cases hj)
  have hkk : (n : Int) + (m : Int) - (i : Int) = ((n + m - i : Nat) : Int) := by omega
  have hik : i + (n + m - i) = n + m := by omega
  obtain ⟨G, hG⟩ : ∃ G, G = grownCap w (n + m) cp 36 := ⟨_, rfl⟩
  obtain ⟨ROW, hROW⟩ : ∃ ROW : Array Value, ROW = as_.toArray ++ Builtin.zeroCells ((.agg #[.int .u8 0, .int .i64 0, .string ⟨#[]⟩]) : Value).cells (n + m - i) ++ Builtin.zeroCells ((.agg #[.int .u8 0, .int .i64 0, .string ⟨#[]⟩]) : Value).cells (G - (n + m)) := ⟨_, rfl⟩
  have hrz : ∀ ty, (Builtin.append_ #[50, 3] ty #[.slice (some ⟨g, 0, none⟩) i cp, .int .i64 ((n : Int) + (m : Int) - (i : Int))]).run Tryz.prog w =
      .ok (.slice (some ⟨w.heap.size, 0, none⟩) (n + m) G) (w.drew.alloc (.cells ROW 36)) := fun ty => by
    have h := Lib.run_append_grow_zeros w 50 3 ty 36 i1 _ .i64 .i64 Tryz.underlying50 Tryz.underlying3 hi1 hy0 (some ⟨g, 0, none⟩) i cp as_ hold (n + m - i) (by omega) (by omega) (by omega) (by omega) (by rw [hy2]; omega) (by rw [hy2, hik]; exact growslice_fits hroom (by omega))
    rw [hik, ← hG, ← hROW] at h
    rw [hkk]
    exact h
  have hGn : n + m ≤ G := by rw [hG]; exact grownCap_ge w _ _ _
  have hGm : G ≤ maxLen := by rw [hG]; exact grownCap_le_maxLen w (n + m) cp 36 (by unfold maxLen; omega)
  have hG63 : G ≤ 9223372036854775807 := by unfold maxLen at hGm; omega
  have hzc : ∀ q, (Builtin.zeroCells ((.agg #[.int .u8 0, .int .i64 0, .string ⟨#[]⟩]) : Value).cells q).size = q * 3 := fun q => by unfold Builtin.zeroCells; rw [Array.size_map, Array.size_range, ins_zerosV]
  have hRs : ROW.size = G * 3 := by
    rw [hROW, Array.size_append, Array.size_append, hzc, hzc]
    simp only [List.size_toArray, hal]
    omega
  have hRa : ∀ j, j < i * 3 → ROW.toList[j]? = xs[j]? := fun j hj => by
    rw [hROW, Array.toList_append, Array.toList_append, List.append_assoc, List.getElem?_append_left (by simpa [hal] using hj)]
    show as_[j]? = _
    rw [has, List.getElem?_take_of_lt hj]
  obtain ⟨W1, hW1⟩ : ∃ W1, W1 = w.drew.alloc (.cells ROW 36) := ⟨_, rfl⟩
  rw [← hW1] at hrz
  have o0 : W1.ownsRow base 36 3 (.slice (some ⟨w.heap.size, 0, none⟩) (n + m) G) (n + m) (ROW.toList.take ((n + m) * 3)) := by
    rw [hW1]
    refine ⟨by rw [List.length_take, Array.length_toList, hRs]; omega, .inr ⟨w.heap.size, G, ROW, rfl, hB, heap_alloc_new w.drew _, hGn, hGm, hRs, rfl⟩⟩
  have hsp : ∀ (W : World) (zs' : List Value), W.ownsRow base 36 3 (.slice (some ⟨w.heap.size, 0, none⟩) (n + m) G) (n + m) zs' → ∀ k, k < (n + m) * 3 → (W.cell? ⟨w.heap.size, k, none⟩).isSome = true ∧ W.frozen? ⟨w.heap.size, k, none⟩ = false := fun W zs' hW k hk => by
    obtain ⟨g', c', e1, _, h1, h2⟩ := own_at hW (j := k) (List.getElem?_eq_getElem (by rw [hW.1]; exact hk))
    simp only [Value.slice.injEq, Option.some.injEq, Addr.mk.injEq, and_true, true_and] at e1
    obtain ⟨rfl, _⟩ := e1
    exact ⟨by rw [h1]; rfl, h2⟩
  have hOb : ∀ b j v, b < w.heap.size → w.cell? ⟨b, j, none⟩ = some v → W1.cell? ⟨b, j, none⟩ = some v := fun b j v hb h => by rw [hW1, World.cell?_alloc_past (w := w.drew) _ b j hb]; exact h
  obtain ⟨zs1, o1, l1, at1⟩ := own_sets ys (i * 3) W1 _ o0 (by omega)
  have hcpA : ∀ (W : World), (∀ x, W.cell? x = W1.cell? x) → (∀ x, W.frozen? x = W1.frozen? x) → ∀ ty dc, (Builtin.copy_ #[50, 50] ty #[.slice (some ⟨w.heap.size, i * 3, none⟩) (n + m - i) dc, .slice (some ⟨vb, 0, none⟩) m vc]).run Tryz.prog W = .ok (goInt (Nat.min m (n + m - i) : Nat)) (W.setCells w.heap.size (i * 3) ys) := fun W hWc hWf ty dc =>
    run_copy_cellsN W _ _ ty 36 3 w.heap.size (i * 3) (n + m - i) dc ⟨vb, 0, none⟩ m vc ys Tryz.underlying50 hsz (by rw [hyl]; simp only [Nat.min_def]; split <;> omega)
      (fun j v hj => by rw [Addr.add_lit, hWc, Nat.zero_add]; exact hOb _ _ v hvw (hyc j v hj))
      (fun j hj => by rw [hWc]; exact (hsp _ _ o0 _ (by omega)).1) (fun j hj => by rw [hWf]; exact (hsp _ _ o0 _ (by omega)).2) h1y
  have hcpB : ∀ (W : World), (∀ x, W.cell? x = (W1.setCells w.heap.size (i * 3) ys).cell? x) → (∀ x, W.frozen? x = (W1.setCells w.heap.size (i * 3) ys).frozen? x) → ∀ ty dc sc, (Builtin.copy_ #[50, 50] ty #[.slice (some ⟨w.heap.size, (i + m) * 3, none⟩) (n + m - (i + m)) dc, .slice (some ⟨g, i * 3, none⟩) (n - i) sc]).run Tryz.prog W = .ok (goInt (Nat.min (n - i) (n + m - (i + m)) : Nat)) (W.setCells w.heap.size ((i + m) * 3) bs) := fun W hWc hWf ty dc sc =>
    run_copy_cellsN W _ _ ty 36 3 w.heap.size ((i + m) * 3) (n + m - (i + m)) dc ⟨g, i * 3, none⟩ (n - i) sc bs Tryz.underlying50 hsz (by rw [hbl]; simp only [Nat.min_def]; split <;> omega)
      (fun j v hj => by
        rw [Addr.add_lit, hWc, World.cell?_setCells_out _ _ _ _ _ (fun h _ => absurd h (by omega : g ≠ w.heap.size))]
        exact hOb _ _ v hgw (hxc _ v (by rwa [hbs, List.getElem?_drop] at hj)))
      (fun j hj => by rw [hWc]; exact (hsp _ _ o1 _ (by omega)).1) (fun j hj => by rw [hWf]; exact (hsp _ _ o1 _ (by omega)).2) (fun v hv => h1x v (by rw [hbs] at hv; exact List.mem_of_mem_drop hv))
  obtain ⟨zs2, o2, l2, at2⟩ := own_sets bs ((i + m) * 3) (W1.setCells w.heap.size (i * 3) ys).drew _ o1.drew (by omega)
  have hfin : zs2 = xs.take (i * 3) ++ ys ++ bs := by
    rw [hbs]
    have hzl2 : zs2.length = (n + m) * 3 := o2.1
    refine ins_eq xs ys zs2 (i * 3) (by omega) (fun j hj => ?_) (fun j hj => ?_) (fun j => ?_)
    · rw [at2 j, if_neg (by omega), at1 j, if_neg (by omega), List.getElem?_take_of_lt (by omega)]
      exact hRa j hj
    · rw [at2, if_neg (by omega), at1, if_pos (by omega), Nat.add_sub_cancel_left]
    · by_cases hj : i * 3 + ys.length + j < (i + m) * 3 + bs.length
      · rw [at2, if_pos (by omega), hbs, List.getElem?_drop]
        congr 1; omega
      · rw [List.getElem?_eq_none (by omega), List.getElem?_eq_none (by omega)]
  rw [hfin] at o2
  have hkp : w.grownBy ((W1.setCells w.heap.size (i * 3) ys).drew.setCells w.heap.size ((i + m) * 3) bs) (some g) := by
    have h1 : Kp (fun _ => False) w ((W1.setCells w.heap.size (i * 3) ys).drew.setCells w.heap.size ((i + m) * 3) bs) := by
      rw [hW1]
      exact Kp.sets (F := fun _ => False) (g := w.heap.size) (.inr (Nat.le_refl _)) _ _ _ (Kp.sets (F := fun _ => False) (g := w.heap.size) (.inr (Nat.le_refl _)) _ _ _ (Kp.of_below ((Below.refl _ w).drew.alloc (Nat.le_refl _) _) _)).drew
    exact ⟨h1.os, h1.tape, h1.output, h1.size, fun k hk _ => h1.block k hk (fun e => e)⟩
  have HR := Lib.hid (And.intro o2 hkp)
  have mixed : (Tryz.prog).follows .mixedOrders = true := by kernel_rfl
  have hz1 : ¬ ((m : Int) = 0) := by omega
  have hz2 : ¬ ((i : Int) = (n : Int)) := by omega
  have hz3 : (cp : Int) < (n : Int) + (m : Int) := by omega
  have hGi : ¬ (G = i) := by omega
  have hGim : ¬ (G = i + m) := by omega
  have hci : ¬ (cp = i) := by have := hcp.1; omega
  have hw1 : IntKind.i64.wrap ((i : Int) + (m : Int)) = (i : Int) + (m : Int) := by rw [IntKind.wrap_i64]; omega
  have hb1 : (0 : Int) ≤ (i : Int) + (m : Int) := by omega
  have hin : i ≤ n := by omega
  have htn : ((i : Int) + (m : Int)).toNat = i + m := by omega
  have hb3 : (i : Int) ≤ (n : Int) := by omega
  have hc63 := hcp.2
  have hF1 : ∀ x, ((W1.setCells w.heap.size (i * 3) ys).drew).cell? x = (W1.setCells w.heap.size (i * 3) ys).cell? x := fun x => rfl
  have hF2 : ∀ x, ((W1.setCells w.heap.size (i * 3) ys).drew).frozen? x = (W1.setCells w.heap.size (i * 3) ys).frozen? x := fun x => rfl
  rw [← has, ← hbs]
  rw [← has] at HR
  clear o2 hkp hfin at2 at1 o1 o0 h hy hxc hyc hsp hW1 hbs has hkk hik hold hROW hG hRs hRa hOb hzc
  go_enter Tryz.func228, Tryz.ntmps228
  go_wp2_with (first
    | (at_builtin; refine Lib.wpList_append_run _ rfl _ _ _ _ rfl _ _ rfl rfl _ _ (hrz _) ?_)
    | (at_builtin; refine wpList_copy_runI _ rfl _ _ 50 50 rfl _ _ rfl rfl (hcpA _ (fun _ => rfl) (fun _ => rfl) _ _) ?_)
    | (at_builtin; refine wpList_copy_runI _ rfl _ _ 50 50 rfl _ _ rfl rfl (hcpB _ (fun _ => rfl) (fun _ => rfl) _ _ _) ?_))
  go_region_law_o (refine step_copy_runI rfl _ _ 50 50 rfl (.slice (some ⟨w.heap.size, (i + m) * 3, none⟩) (n + m - (i + m)) (G - (i + m))) (.slice (some ⟨g, i * 3, none⟩) (n - i) (cp - i)) (by simp [Act.eval, Act.put]) (by simp [Act.eval, Act.put]) (hcpB _ hF1 hF2 3 (G - (i + m)) (cp - i)) ?_)
  go_wp2
  go_ret
  exact ⟨_, rfl, HR.out.1, HR.out.2, .inr rfl⟩
theorem vinsertV (v y : Value) (base n i m : Nat) (xs ys : List Value) (w : World) (h : w.ownsRow base 36 3 v n xs) (hi : i ≤ n) (hm : 0 < m) (hn : n + m ≤ 100000) (hy : w.ownsRow 0 36 3 y m ys) (hne : ∀ q, v.ownBlock = some q → y.ownBlock ≠ some q) (h1x : ∀ u ∈ xs, u.oneCell' = true) (h1y : ∀ u ∈ ys, u.oneCell' = true) (hB : base ≤ w.heap.size) :
    Calls Tryz.prog 228 #[v, .int .i64 i, y] w fun e w' => ∃ v', e = .returned v' ∧ w'.ownsRow base 36 3 v' (n + m) (xs.take (i * 3) ++ ys ++ xs.drop (i * 3)) ∧ w.grownBy w' v.ownBlock ∧ (v'.ownBlock = v.ownBlock ∨ v'.ownBlock = some w.heap.size) := by
  by_cases e : i = n
  · subst e
    refine (vinsert_endV v y base i m xs ys w h hm hn (Rd.of_own hy) hy.1 h1y hB).mono ?_
    rintro e w' ⟨v', rfl, h1, h2, h3⟩
    refine ⟨v', rfl, ?_, h2, h3⟩
    rw [List.take_of_length_le (by have := h.1; omega), List.drop_eq_nil_of_le (by have := h.1; omega), List.append_nil]
    exact h1
  · obtain ⟨g, cp, rfl⟩ : ∃ g cp, v = .slice (some ⟨g, 0, none⟩) n cp := by
      rcases h.2 with ⟨_, e⟩ | ⟨g, cp, _, e, _⟩
      · omega
      · exact ⟨g, cp, e⟩
    by_cases hr : n + m ≤ cp
    · exact vinsert_roomV y base g n cp i m xs ys w h (by omega) hm hr hy (hne g rfl) h1x h1y
    · exact vinsert_growV y base g n cp i m xs ys w h (by omega) hm (by omega) hn hy h1x h1y hB

end Go.Proofs.YtdddhmipifkepaaGreat

namespace Go.Proofs.YtdddhmipifkepaaGreat
set_option maxRecDepth 100000
open Go.RowKit
def leafP (k v : Ky) (l : List Pr) : List Pr := if hasN k l = true then l.set (lowN k l) (k, v) else l.insertIdx (lowN k l) (k, v)
section
set_option maxHeartbeats 1600000 in
theorem vwithPair (x : Wv) (o a b : Int) (l : List Pr) (k v : Ky) (base : Nat) (V : Value) (A2 : Option Addr) (n2 c2 : Nat) (w : World) (hat : x.at' = 2 * lowN k l) (hhas : x.has = hasN k l) (hl : l.length ≤ 4096) (own : w.ownsRow base 36 3 V (flatP l).length ((flatP l).flatMap cells3)) (hB : base ≤ w.heap.size) :
    Calls Tryz.prog 164 #[wagg x, cagg o a b V (.slice A2 n2 c2), xagg k, xagg v] w fun e w' => ∃ A3 c3 n3, e = .returned (cagg o a b (.slice A3 n3 c3) (.slice A2 n2 c2)) ∧ n3 = (flatP (leafP k v l)).length ∧
      w'.ownsRow base 36 3 (.slice A3 n3 c3) n3 ((flatP (leafP k v l)).flatMap cells3) ∧ Kp (fun q => V.ownBlock = some q) w w' ∧ (∀ q, (Value.slice A3 n3 c3).ownBlock = some q → V.ownBlock = some q ∨ w.heap.size ≤ q) := by
  obtain ⟨A1, c1, rfl, hc1⟩ := (Rd.of_own own).form
  obtain ⟨n1, hn1⟩ : ∃ n1, n1 = (flatP l).length := ⟨_, rfl⟩
  rw [← hn1] at own hc1 ⊢
  have hn1' : n1 = 2 * l.length := by rw [hn1, flatP_length]
  obtain ⟨W0, hW0⟩ : ∃ W0, W0 = ((((w.alloc (.cells (wcells x) 169)).alloc (.cells #[.int .u32 o, .int .u32 a, .int .u32 b, .slice A1 n1 c1, .slice A2 n2 c2] 109)).alloc (.cells #[.int .u8 k.1, .int .i64 k.2.1, .string k.2.2] 36)).alloc (.cells #[.int .u8 v.1, .int .i64 v.2.1, .string v.2.2] 36)).alloc (.cells #[.int .u32 0, .int .u32 0, .int .u32 0, .slice none 0 0, .slice none 0 0] 109) := ⟨_, rfl⟩
  have hsz : W0.heap.size = w.heap.size + 1 + 1 + 1 + 1 + 1 := by rw [hW0]; simp
  have hb0 : Below w.heap.size w W0 := by rw [hW0]; exact (((((Below.refl _ w).alloc (Nat.le_refl _) _).alloc (by simp) _).alloc (by simp; omega) _).alloc (by simp; omega) _).alloc (by simp; omega) _
  have s1 : (w.alloc (.cells (wcells x) 169)).heap.size = w.heap.size + 1 := by simp
  have q0 : WC W0 w.heap.size x := by rw [hW0]; exact ((((WC.new w x).alloc _).alloc _).alloc _).alloc _
  have q1 : C5 W0 (w.heap.size + 1) 109 (.int .u32 o) (.int .u32 a) (.int .u32 b) (.slice A1 n1 c1) (.slice A2 n2 c2) := by
    have h := (((C5.new (w.alloc (.cells (wcells x) 169)) 109 (.int .u32 o) (.int .u32 a) (.int .u32 b) (.slice A1 n1 c1) (.slice A2 n2 c2)).alloc (.cells #[.int .u8 k.1, .int .i64 k.2.1, .string k.2.2] 36)).alloc (.cells #[.int .u8 v.1, .int .i64 v.2.1, .string v.2.2] 36)).alloc (.cells #[.int .u32 0, .int .u32 0, .int .u32 0, .slice none 0 0, .slice none 0 0] 109)
    rw [hW0]
    simpa using h
  have q2 : C3 W0 (w.heap.size + 1 + 1) 36 (.int .u8 k.1) (.int .i64 k.2.1) (.string k.2.2) := by
    have h := ((C3.new ((w.alloc (.cells (wcells x) 169)).alloc (.cells #[.int .u32 o, .int .u32 a, .int .u32 b, .slice A1 n1 c1, .slice A2 n2 c2] 109)) 36 (.int .u8 k.1) (.int .i64 k.2.1) (.string k.2.2)).alloc (.cells #[.int .u8 v.1, .int .i64 v.2.1, .string v.2.2] 36)).alloc (.cells #[.int .u32 0, .int .u32 0, .int .u32 0, .slice none 0 0, .slice none 0 0] 109)
    rw [hW0]
    simpa using h
  have q3 : C3 W0 (w.heap.size + 1 + 1 + 1) 36 (.int .u8 v.1) (.int .i64 v.2.1) (.string v.2.2) := by
    have h := (C3.new (((w.alloc (.cells (wcells x) 169)).alloc (.cells #[.int .u32 o, .int .u32 a, .int .u32 b, .slice A1 n1 c1, .slice A2 n2 c2] 109)).alloc (.cells #[.int .u8 k.1, .int .i64 k.2.1, .string k.2.2] 36)) 36 (.int .u8 v.1) (.int .i64 v.2.1) (.string v.2.2)).alloc (.cells #[.int .u32 0, .int .u32 0, .int .u32 0, .slice none 0 0, .slice none 0 0] 109)
    rw [hW0]
    simpa using h
  have q4 : C5 W0 (w.heap.size + 1 + 1 + 1 + 1) 109 (.int .u32 0) (.int .u32 0) (.int .u32 0) (.slice none 0 0) (.slice none 0 0) := by
    have h := C5.new ((((w.alloc (.cells (wcells x) 169)).alloc (.cells #[.int .u32 o, .int .u32 a, .int .u32 b, .slice A1 n1 c1, .slice A2 n2 c2] 109)).alloc (.cells #[.int .u8 k.1, .int .i64 k.2.1, .string k.2.2] 36)).alloc (.cells #[.int .u8 v.1, .int .i64 v.2.1, .string v.2.2] 36)) 109 (.int .u32 0) (.int .u32 0) (.int .u32 0) (.slice none 0 0) (.slice none 0 0)
    rw [hW0]
    simpa using h
  have own0 := (Kp.of_below hb0 (fun _ => False)).own own (fun _ _ h => h)
  have hko : ∀ q, (Value.slice A1 n1 c1).ownBlock = some q → q < w.heap.size := fun q hq => (own_blk own q hq).2
  have HB0 := Lib.hid hb0
  have OWN := Lib.hid own0
  have HKO := Lib.hid hko
  have SZ := Lib.hid hsz
  have HN := Lib.hid hn1
  have QS := Lib.hid (And.intro q0 (And.intro q1 (And.intro q2 (And.intro q3 q4))))
  have HAT := Lib.hid (show x.at' = 2 * lowN k l ∧ x.has = hasN k l ∧ lowN k l ≤ l.length ∧ n1 = 2 * l.length from ⟨hat, hhas, lowN_le k l, hn1'⟩)
  have HBS := Lib.hid hB
  have HL := Lib.hid hl
  clear q0 q1 q2 q3 q4 s1 hb0 own own0 hko hsz hn1 hn1' hB hat hhas hl
  have HW0 := Lib.hid hW0
  clear hW0
  obtain ⟨m0, m1, m2, m3, m4, m5, m6, m7, m8, m9⟩ := QS.out.1.all
  obtain ⟨x0, x1, x2, x3, x4, y0, y1, y2, y3, y4⟩ := QS.out.2.1.all
  obtain ⟨k0, k1, k2, _⟩ := QS.out.2.2.1.all
  obtain ⟨v0, v1, v2, _⟩ := QS.out.2.2.2.1.all
  obtain ⟨z0, z1, z2, z3, z4, u0, u1, u2, u3, u4⟩ := QS.out.2.2.2.2.all
  go_enter Tryz.func164, Tryz.ntmps164
  go_upto_region 1 with fail
  rw [← HW0.out]
  clear HW0
  have fin : ∀ W1 W9 A3 n3 c3 ys, W1.ownsRow base 36 3 (.slice A3 n3 c3) n3 ys → Kp (fun q => (Value.slice A1 n1 c1).ownBlock = some q) W0 W1 → (∀ q, (Value.slice A3 n3 c3).ownBlock = some q → (Value.slice A1 n1 c1).ownBlock = some q ∨ W0.heap.size ≤ q) → Kp (fun q => q = w.heap.size + 1 ∨ q = w.heap.size + 1 + 1 + 1 + 1) W1 W9 →
      W9.ownsRow base 36 3 (.slice A3 n3 c3) n3 ys ∧ Kp (fun q => (Value.slice A1 n1 c1).ownBlock = some q) w W9 ∧ (∀ q, (Value.slice A3 n3 c3).ownBlock = some q → (Value.slice A1 n1 c1).ownBlock = some q ∨ w.heap.size ≤ q) := fun W1 W9 A3 n3 c3 ys io ik ib h9 => by
    have hs0 := SZ.out
    refine ⟨h9.own io (fun q hq h => ?_), ((Kp.of_below HB0.out (fun q => (Value.slice A1 n1 c1).ownBlock = some q)).trans ik (fun q h => .inl h)).trans h9 (fun q h => .inr (by omega)), fun q hq => ?_⟩
    · rcases ib q hq with h1 | h1
      · have := HKO.out q h1; omega
      · omega
    · rcases ib q hq with h1 | h1
      · exact .inl h1
      · exact .inr (by omega)
  have FIN := Lib.hid fin
  clear fin
  cases hh : x.has with
  | true =>
    rw [hh] at m9
    obtain ⟨t0, t1, t2, t3⟩ := HAT.out
    rw [hh] at t1
    obtain ⟨vv0, hv0⟩ := hasN_at t1.symm
    have hlt : lowN k l < l.length := (List.getElem?_eq_some_iff.1 hv0).1
    obtain ⟨u', hu'⟩ : ∃ u, ((flatP l).flatMap cells3)[(x.at' + 1) * 3]? = some u := ⟨_, List.getElem?_eq_getElem (by rw [flat_len, flatP_length]; omega)⟩
    obtain ⟨g, cp, e, hcp, g0, f0⟩ := own_at OWN.out hu'
    simp only [Value.slice.injEq, true_and] at e
    obtain ⟨rfl, rfl⟩ := e
    obtain ⟨u'', hu''⟩ : ∃ u, ((flatP l).flatMap cells3)[(x.at' + 1) * 3 + 1]? = some u := ⟨_, List.getElem?_eq_getElem (by rw [flat_len, flatP_length]; omega)⟩
    obtain ⟨_, _, e, _, g1, f1⟩ := own_at OWN.out hu''
    simp only [Value.slice.injEq, Option.some.injEq, Addr.mk.injEq, and_true, true_and] at e
    obtain ⟨rfl, rfl⟩ := e
    obtain ⟨u3', hu3'⟩ : ∃ u, ((flatP l).flatMap cells3)[(x.at' + 1) * 3 + 2]? = some u := ⟨_, List.getElem?_eq_getElem (by rw [flat_len, flatP_length]; omega)⟩
    obtain ⟨_, _, e, _, g2, f2⟩ := own_at OWN.out hu3'
    simp only [Value.slice.injEq, Option.some.injEq, Addr.mk.injEq, and_true, true_and] at e
    obtain ⟨rfl, rfl⟩ := e
    have hi1 : (0 : Int) ≤ (x.at' : Int) + 1 := by omega
    have hi2 : (x.at' : Int) + 1 < (n1 : Int) := by omega
    have hi3 : IntKind.i64.wrap ((x.at' : Int) + 1) = (x.at' : Int) + 1 := by rw [IntKind.wrap_i64]; have := HL.out; omega
    have hi4 : ((x.at' : Int) + 1).toNat = x.at' + 1 := by omega
    have hgg : g < w.heap.size := HKO.out g rfl
    have HH := Lib.hid (And.intro t0 (And.intro hv0 t1))
    clear t0 t1 t2 t3 hlt hu' hu'' hu3' hv0
    go_wp2_with fail
    have io := own_put v OWN.out (m := x.at' + 1) HN.out.symm (by omega)
    have ik : Kp (fun q => (Value.slice (some ⟨g, 0, none⟩) n1 c1).ownBlock = some q) W0 (((W0.setCell ⟨g, (x.at' + 1) * 3, none⟩ (.int .u8 v.1)).setCell ⟨g, (x.at' + 1) * 3 + 1, none⟩ (.int .i64 v.2.1)).setCell ⟨g, (x.at' + 1) * 3 + 2, none⟩ (.string v.2.2)) := (((Kp.refl (fun q => (Value.slice (some ⟨g, 0, none⟩) n1 c1).ownBlock = some q) W0).setCell (.inl rfl) _).setCell (.inl rfl) _).setCell (.inl rfl) _
    refine bodyPost_ret (v := cagg o a b (.slice (some ⟨g, 0, none⟩) n1 c1) (.slice A2 n2 c2)) (by simp [results, Tryz.results164, go_sem, z0, z1, z2, z3, z4]) rfl ⟨some ⟨g, 0, none⟩, c1, n1, rfl, ?_, ?_⟩
    · unfold leafP
      rw [if_pos HH.out.2.2.symm, flatP_length, List.length_set, ← flatP_length, HN.out]
    · unfold leafP
      rw [if_pos HH.out.2.2.symm, flatP_set HH.out.2.1, ← HH.out.1]
      refine FIN.out _ _ _ _ _ _ io ik (fun q hq => .inl hq) ?_
      repeat first
        | with_reducible exact Kp.refl _ _
        | with_reducible refine Kp.setCell ?_ (by simp) _
  | false =>
    rw [hh] at m9
    obtain ⟨t0, t1, t2, t3⟩ := HAT.out
    rw [hh] at t1
    have HINS := Lib.hid (vinsertV (.slice A1 n1 c1) (.slice (some ⟨W0.heap.size, 0, none⟩) 2 2) base n1 x.at' 2 ((flatP l).flatMap cells3) ([k, v].flatMap cells3) (W0.alloc (.cells #[.int .u8 k.1, .int .i64 k.2.1, .string k.2.2, .int .u8 v.1, .int .i64 v.2.1, .string v.2.2] 36)) ((Kp.refl (fun _ => False) W0).alloc _ |>.own OWN.out (fun _ _ h => h)) (by omega) (by decide) (by have := HL.out; omega) (row_two k v 0 W0 (Nat.zero_le _)) (fun q hq e => by
      have h1 := HKO.out q hq
      have h2 := SZ.out
      simp only [Value.ownBlock, Option.some.injEq] at e
      omega) (flat_one _) (flat_one _) (by have h1 := HBS.out; have h2 := SZ.out; simp; omega))
    have HH := Lib.hid (And.intro t0 (And.intro t2 t1))
    clear t0 t1 t2 t3
    go_wp2_with fail
    refine HINS.out.mono ?_
    rintro e W1 ⟨v', rfl, io, ig, ib⟩
    obtain ⟨A3, c3, rfl, _⟩ := (Rd.of_own io).form
    have ik : Kp (fun q => (Value.slice A1 n1 c1).ownBlock = some q) W0 W1 := (Kp.refl _ W0).alloc _ |>.trans (Kp.of_grown ig (F := fun q => (Value.slice A1 n1 c1).ownBlock = some q) (fun q hq => .inl hq)) (fun q h => .inl h)
    have nb : ∀ z, w.heap.size ≤ z → ¬ (Value.slice A1 n1 c1).ownBlock = some z := fun z hz e => by have := HKO.out z e; omega
    have qs := QS.out
    obtain ⟨x0, x1, x2, x3, x4, y0, y1, y2, y3, y4⟩ := (qs.2.1.kp ik (nb _ (by omega))).all
    obtain ⟨z0, z1, z2, z3, z4, u0, u1, u2, u3, u4⟩ := (qs.2.2.2.2.kp ik (nb _ (by omega))).all
    have IO := Lib.hid io
    have IK := Lib.hid ik
    have IB := Lib.hid (show ∀ q, (Value.slice A3 (n1 + 2) c3).ownBlock = some q → (Value.slice A1 n1 c1).ownBlock = some q ∨ W0.heap.size ≤ q from fun q hq => by
      rcases ib with h | h
      · exact .inl (h ▸ hq)
      · rw [h] at hq
        cases hq
        exact .inr (by simp))
    clear io ig ib ik nb qs
    go_wp2_with fail
    refine bodyPost_ret (v := cagg o a b (.slice A3 (n1 + 2) c3) (.slice A2 n2 c2)) (by simp [results, Tryz.results164, go_sem, z0, z1, z2, z3, z4]) rfl ⟨A3, c3, n1 + 2, rfl, ?_, ?_⟩
    · unfold leafP
      rw [if_neg (by rw [← HH.out.2.2]; simp), flatP_length, List.length_insertIdx_of_le_length HH.out.2.1, HN.out, flatP_length]
      omega
    · unfold leafP
      rw [if_neg (by rw [← HH.out.2.2]; simp), flatP_insert HH.out.2.1, ← HH.out.1]
      have io := IO.out
      rw [flat3_ins] at io
      refine FIN.out _ _ _ _ _ _ io IK.out IB.out ?_
      repeat first
        | with_reducible exact Kp.refl _ _
        | with_reducible refine Kp.setCell ?_ (by simp) _
end

end Go.Proofs.YtdddhmipifkepaaGreat

namespace Go.Proofs.YtdddhmipifkepaaGreat
open Go.RowKit

end Go.Proofs.YtdddhmipifkepaaGreat

namespace Go.Proofs.YtdddhmipifkepaaGreat
open Go.RowKit

theorem ChgS.mono {f : FuncId} {caps : Array Value} {b most : Nat} {F : Nat → Prop} {w : World} {M1 : Cells} {c : Hc} {R R' : Hc → Cells → Prop} (h : ChgS f caps b most F w M1 c R) (hR : ∀ c' M2, R c' M2 → R' c' M2) : ChgS f caps b most F w M1 c R' := by
  intro o v k W F1 h1 h2 h3 h4 h5
  refine (h o v k W F1 h1 h2 h3 h4 h5).mono ?_
  rintro e W' ⟨v', k', c', M2, F2, a1, a2, a3, a4, a5, a6, a7⟩
  exact ⟨v', k', c', M2, F2, a1, a2, a3, a4, a5, a6, hR _ _ a7⟩
theorem addP_lt {P : Nat → Nat} {B : Nat} (h : ∀ j, P j ≤ B) (i j : Nat) : addP P i j ≤ B + 1 := by
  have := h j
  unfold addP
  split <;> omega
theorem count_erase_set : ∀ (l : List Nat) (j a b k : Nat), l[j]? = some a → l.count k = (l.eraseIdx j).count k + [a].count k ∧ (l.set j b).count k = (l.eraseIdx j).count k + [b].count k
  | [], _, _, _, _, h => by simp at h
  | x :: l, 0, a, b, k, h => by
    obtain rfl : x = a := by simpa using h
    simp only [List.eraseIdx_zero, List.tail_cons, List.set_cons_zero, List.count_cons, List.count_nil]
    omega
  | x :: l, j + 1, a, b, k, h => by
    have ih := count_erase_set l j a b k (by simpa using h)
    simp only [List.eraseIdx_cons_succ, List.set_cons_succ, List.count_cons, List.count_nil] at *
    omega

section
variable {b most : Nat} {M : Cells} {F : Nat → Prop} {P : Nat → Nat}
theorem bk_rf {hs : List Nat} (hm : most ≤ 1048576) (hP : ∀ j, P j ≤ 576460752303423488) (hb : Bk (most + 1) M [] P hs) (hl : hs.length ≤ 64) (j : Nat) : rf (M j) ≤ 4611686018420000000 := by
  have h1 := hb.rfb j
  have h2 := hP j
  have h3 : hs.count j ≤ 64 := Nat.le_trans List.count_le_length hl
  have h4 : (most + 1) * 64 ≤ 1048577 * 64 := Nat.mul_le_mul_right _ (by omega)
  omega
end

end Go.Proofs.YtdddhmipifkepaaGreat

namespace Go.Proofs.YtdddhmipifkepaaGreat
set_option maxRecDepth 100000
open Go.RowKit

theorem Rn.notF {w W : World} {b most : Nat} {M : Cells} {F F1 : Nat → Prop} (h : Rn w W b most M F F1) {q : Nat} (hq : W.heap.size ≤ q) : ¬ F1 q := fun hf => by
  have := h.ar.lt hf
  omega
theorem chgS_vals {f : FuncId} {caps : Array Value} {b most : Nat} {F : Nat → Prop} {w : World} {M1 : Cells} {c : Hc} (vals' : List V3)
    (hc : ∀ (o : Int) (A1 A2 : Option Addr) (c1 c2 : Nat) (W : World) (F1 : Nat → Prop), Rn w W b most M1 F F1 → W.ownsRow w.heap.size 36 3 (.slice A1 c.vals.length c1) c.vals.length (c.vals.flatMap cells3) →
      Calls Tryz.prog f (#[cagg o c.a c.b (.slice A1 c.vals.length c1) (.slice A2 c.kids.length c2)] ++ caps) W fun e W' => ∃ A3 c3 n3, e = .returned (cagg o c.a c.b (.slice A3 n3 c3) (.slice A2 c.kids.length c2)) ∧ n3 = vals'.length ∧
        W'.ownsRow w.heap.size 36 3 (.slice A3 n3 c3) n3 (vals'.flatMap cells3) ∧ Kp (fun q => (Value.slice A1 c.vals.length c1).ownBlock = some q) W W' ∧ (∀ q, (Value.slice A3 n3 c3).ownBlock = some q → (Value.slice A1 c.vals.length c1).ownBlock = some q ∨ W.heap.size ≤ q)) :
    ChgS f caps b most F w M1 c (fun c' M2 => c' = { c with vals := vals' } ∧ M2 = M1) := by
  intro o v k W F1 hRn nv nk o1 o2
  obtain ⟨A1, c1, rfl, _⟩ := (Rd.of_own o1).form
  obtain ⟨A2, c2, rfl, _⟩ := (Rd.of_own o2).form
  refine (hc o A1 A2 c1 c2 W F1 hRn o1).mono ?_
  rintro e W' ⟨A3, c3, n3, rfl, rfl, io, ik, ib⟩
  have hne : ∀ q, (Value.slice A2 c.kids.length c2).ownBlock = some q → ¬ (Value.slice A1 c.vals.length c1).ownBlock = some q := fun q hq e => by
    obtain ⟨cur, hcur⟩ := own_type o1 q e
    exact own_ne o2 hcur (by decide) q hq rfl
  refine ⟨_, _, { c with vals := vals' }, M1, F1, rfl, Rd.of_own io, Rd.of_own (ik.own o2 hne), hRn.mine ik (fun g hg => ⟨(own_blk o1 g hg).1, nv g hg⟩), fun q hq => ?_, nk, rfl, rfl⟩
  rcases ib q hq with h | h
  · exact nv q h
  · exact hRn.notF h
section
set_option maxHeartbeats 1600000 in
theorem vput2 (x : Wv) (zw zk zv : Nat) (o a b : Int) (l : List Pr) (k v : Ky) (base : Nat) (A1 A2 : Option Addr) (n1 c1 n2 c2 : Nat) (w : World) (hw : WC w zw x) (hk : C3 w zk 36 (.int .u8 k.1) (.int .i64 k.2.1) (.string k.2.2)) (hv : C3 w zv 36 (.int .u8 v.1) (.int .i64 v.2.1) (.string v.2.2))
    (hat : x.at' = 2 * lowN k l) (hhas : x.has = hasN k l) (hl : l.length ≤ 4096) (hn1 : n1 = (flatP l).length) (own : w.ownsRow base 36 3 (.slice A1 n1 c1) n1 ((flatP l).flatMap cells3)) (hB : base ≤ w.heap.size) :
    Calls Tryz.prog 163 (#[cagg o a b (.slice A1 n1 c1) (.slice A2 n2 c2)] ++ #[.pointer (some ⟨zw, 0, none⟩), .pointer (some ⟨zk, 0, none⟩), .pointer (some ⟨zv, 0, none⟩)]) w fun e w' => ∃ A3 c3 n3, e = .returned (cagg o a b (.slice A3 n3 c3) (.slice A2 n2 c2)) ∧ n3 = (flatP (leafP k v l)).length ∧
      w'.ownsRow base 36 3 (.slice A3 n3 c3) n3 ((flatP (leafP k v l)).flatMap cells3) ∧ Kp (fun q => (Value.slice A1 n1 c1).ownBlock = some q) w w' ∧ (∀ q, (Value.slice A3 n3 c3).ownBlock = some q → (Value.slice A1 n1 c1).ownBlock = some q ∨ w.heap.size ≤ q) := by
  obtain ⟨W0, hW0⟩ : ∃ W0, W0 = (w.alloc (.cells #[.int .u32 o, .int .u32 a, .int .u32 b, .slice A1 n1 c1, .slice A2 n2 c2] 109)).alloc (.cells #[.int .u32 0, .int .u32 0, .int .u32 0, .slice none 0 0, .slice none 0 0] 109) := ⟨_, rfl⟩
  have hsz : W0.heap.size = w.heap.size + 1 + 1 := by rw [hW0]; simp
  have hb0 : Below w.heap.size w W0 := by rw [hW0]; exact ((Below.refl _ w).alloc (Nat.le_refl _) _).alloc (by simp) _
  have q1 : C5 W0 w.heap.size 109 (.int .u32 o) (.int .u32 a) (.int .u32 b) (.slice A1 n1 c1) (.slice A2 n2 c2) := by
    rw [hW0]; exact (C5.new w 109 (.int .u32 o) (.int .u32 a) (.int .u32 b) (.slice A1 n1 c1) (.slice A2 n2 c2)).alloc _
  have q2 : C5 W0 (w.heap.size + 1) 109 (.int .u32 0) (.int .u32 0) (.int .u32 0) (.slice none 0 0) (.slice none 0 0) := by
    have := C5.new (w.alloc (.cells #[.int .u32 o, .int .u32 a, .int .u32 b, .slice A1 n1 c1, .slice A2 n2 c2] 109)) 109 (.int .u32 0) (.int .u32 0) (.int .u32 0) (.slice none 0 0) (.slice none 0 0)
    rw [hW0]
    simpa using this
  have own0 := (Kp.of_below hb0 (fun _ => False)).own own (fun _ _ h => h)
  have HKO := Lib.hid (show ∀ q, (Value.slice A1 n1 c1).ownBlock = some q → q < w.heap.size from fun q hq => (own_blk own q hq).2)
  subst hn1
  have HP := Lib.hid (vwithPair x o a b l k v base (.slice A1 (flatP l).length c1) A2 n2 c2 W0 hat hhas hl own0 (by omega))
  have HB0 := Lib.hid hb0
  have HSZ := Lib.hid hsz
  obtain ⟨m0, m1, m2, m3, m4, m5, m6, m7, m8, m9⟩ := (hw.below hb0).all
  obtain ⟨k0, k1, k2, _⟩ := (hk.below hb0).all
  obtain ⟨v0, v1, v2, _⟩ := (hv.below hb0).all
  obtain ⟨x0, x1, x2, x3, x4, _⟩ := q1.all
  have Q2 := Lib.hid q2
  have HW0 := Lib.hid hW0
  obtain ⟨n1, hn1⟩ : ∃ n1, n1 = (flatP l).length := ⟨_, rfl⟩
  rw [← hn1] at HP HKO x3 ⊢ HW0
  clear hat hhas own own0 hb0 hsz hw hk hv q1 q2 hW0 hn1 hB hl
  go_enter Tryz.func163, Tryz.ntmps163
  go_upto_region 1 with fail
  rw [← HW0.out]
  clear HW0
  go_wp2_with fail
  refine HP.out.mono ?_
  rintro e W1 ⟨A3, c3, n3, rfl, hn3, io, ik, ib⟩
  have q2 := Q2.out.kp ik (fun e => by have := HKO.out _ e; omega)
  obtain ⟨z0, z1, z2, z3, z4, u0, u1, u2, u3, u4⟩ := q2.all
  have IO := Lib.hid (And.intro hn3 io)
  have IK := Lib.hid ik
  have IB := Lib.hid ib
  clear io ik ib q2 hn3
  go_wp2_with fail
  have fin : ∀ W9, Kp (fun q => q = w.heap.size + 1) W1 W9 → W9.ownsRow base 36 3 (.slice A3 n3 c3) n3 ((flatP (leafP k v l)).flatMap cells3) ∧ Kp (fun q => (Value.slice A1 n1 c1).ownBlock = some q) w W9 ∧ (∀ q, (Value.slice A3 n3 c3).ownBlock = some q → (Value.slice A1 n1 c1).ownBlock = some q ∨ w.heap.size ≤ q) := fun W9 h9 => by
    have hs0 := HSZ.out
    refine ⟨h9.own IO.out.2 (fun q hq h => ?_), ((Kp.of_below HB0.out (fun q => (Value.slice A1 n1 c1).ownBlock = some q)).trans IK.out (fun q h => .inl h)).trans h9 (fun q h => .inr (by omega)), fun q hq => ?_⟩
    · rcases IB.out q hq with h1 | h1
      · have := HKO.out q h1; omega
      · omega
    · rcases IB.out q hq with h1 | h1
      · exact .inl h1
      · exact .inr (by omega)
  refine bodyPost_ret (v := cagg o a b (.slice A3 n3 c3) (.slice A2 n2 c2)) (by simp [results, Tryz.results163, go_sem, z0, z1, z2, z3, z4]) rfl ⟨A3, c3, n3, rfl, IO.out.1, fin _ ?_⟩
  repeat first
    | with_reducible exact Kp.refl _ _
    | with_reducible refine Kp.setCell ?_ (by simp) _
theorem chgS_put2 {b most : Nat} {F : Nat → Prop} {M1 : Cells} (x : Wv) (zw zk zv : Nat) (c : Hc) (l : List Pr) (k v : Ky) (w : World) (hw : WC w zw x) (hk : C3 w zk 36 (.int .u8 k.1) (.int .i64 k.2.1) (.string k.2.2)) (hv : C3 w zv 36 (.int .u8 v.1) (.int .i64 v.2.1) (.string v.2.2))
    (nF : ∀ z, z = zw ∨ z = zk ∨ z = zv → ¬ F z) (hc : c.vals = flatP l) (hat : x.at' = 2 * lowN k l) (hhas : x.has = hasN k l) (hl : l.length ≤ 4096) :
    ChgS 163 #[.pointer (some ⟨zw, 0, none⟩), .pointer (some ⟨zk, 0, none⟩), .pointer (some ⟨zv, 0, none⟩)] b most F w M1 c (fun c' M2 => c' = { c with vals := flatP (leafP k v l) } ∧ M2 = M1) := by
  refine chgS_vals _ (fun o A1 A2 c1 c2 W F1 hRn own => ?_)
  rw [hc] at own ⊢
  exact vput2 x zw zk zv o c.a c.b l k v w.heap.size A1 A2 _ c1 _ c2 W (hw.kp hRn.kp (nF _ (.inl rfl))) (hk.kp hRn.kp (nF _ (.inr (.inl rfl)))) (hv.kp hRn.kp (nF _ (.inr (.inr rfl)))) hat hhas hl rfl own hRn.kp.size
end

end Go.Proofs.YtdddhmipifkepaaGreat

/- Several texts in one. -/
import Derived.Test.YtacoingheieceaaGreatMA01
import Derived.Deep.RegionLaw
import Derived.Lib.SliceRun
import Derived.Test.YtacoingheieceaaGreatMA02
/- slices.Delete of a row of one's own: numbers, one. -/
namespace Go.Proofs.YtacoingheieceaaGreat
open Go.RowKit

theorem del_infoI : (Tryz.prog.info? 3).map (fun i => (i.zero, i.size, i.bytes)) = some (some (.int .i64 0), 1, 8) := by kernel_rfl
theorem del_zeroI (w : World) : (zeroValue 3).run Tryz.prog w = .ok (.int .i64 0) w := by kernel_rfl
theorem del_zerosI : (Builtin.zeroCells ((.int .i64 0) : Value).cells 1).toList = [.int .i64 0] := by kernel_rfl
set_option maxRecDepth 100000 in
set_option maxHeartbeats 1600000 in
theorem vdeleteI (base g n cp k : Nat) (xs : List Value) (w : World) (h : w.ownsRow base 3 1 (.slice (some ⟨g, 0, none⟩) n cp) n xs) (hk : k + 1 ≤ n) (h1x : ∀ u ∈ xs, u.oneCell' = true) :
    Calls Tryz.prog 151 #[.slice (some ⟨g, 0, none⟩) n cp, .int .i64 k, .int .i64 ((k : Int) + 1)] w fun x w' => x = .returned (.slice (some ⟨g, 0, none⟩) (n - 1 : Nat) cp) ∧
      w'.ownsRow base 3 1 (.slice (some ⟨g, 0, none⟩) (n - 1) cp) (n - 1) (xs.take (k) ++ xs.drop ((k + 1))) ∧ Kp (fun q => q = g) w w' := by
  obtain ⟨i1, hi1, hy0, hy1, hy2⟩ := info_parts del_infoI
  have hcp := own_cap h
  have hxl : xs.length = n * 1 := h.1
  have HW := Lib.hid h
  have hkn : (k : Int) + 1 ≤ (n : Int) := by omega
  have hnc : (n : Int) ≤ (cp : Int) := by omega
  have hk1 : (k : Int) ≤ (k : Int) + 1 := by omega
  have hk0 : (0 : Int) ≤ (k : Int) := by omega
  have hcm := hcp.2
  have hne : ¬ (k : Int) = (k : Int) + 1 := by omega
  have hneb : ((k : Int) == (k : Int) + 1) = false := by simpa using hne
  have htn : ((k : Int) + 1).toNat = k + 1 := by omega
  have hcell : ∀ j u, xs[j]? = some u → w.drew.cell? ⟨g, j, none⟩ = some u ∧ w.drew.frozen? ⟨g, j, none⟩ = false := fun j u hj => by
    obtain ⟨g', c', e1, _, h1, h2⟩ := own_at h (j := j) (u := u) hj
    simp only [Value.slice.injEq, Option.some.injEq, Addr.mk.injEq, and_true, true_and] at e1
    obtain ⟨rfl, _⟩ := e1
    exact ⟨h1, h2⟩
  have hex : ∀ j, j < n * 1 → ∃ u, xs[j]? = some u := fun j hj => ⟨_, List.getElem?_eq_getElem (by omega)⟩
  clear h
  obtain ⟨news, hnews⟩ : ∃ news, news = xs.drop ((k + 1)) := ⟨_, rfl⟩
  have s1 := Lib.hid (show news.length = (n - (k + 1)) * (1) by rw [hnews, List.length_drop, hxl]; omega)
  have s2 := Lib.hid (show ∀ u ∈ news, u.oneCell' = true from fun u hu => h1x u (by rw [hnews] at hu; exact List.mem_of_mem_drop hu))
  have s3 := Lib.hid (show ∀ j, j < news.length → (w.drew.cell? ⟨g, 0 + k * (1) + j, none⟩).isSome = true ∧ w.drew.frozen? ⟨g, 0 + k * (1) + j, none⟩ = false from fun j hj => by
    rw [s1.out] at hj
    obtain ⟨u, hu⟩ := hex (0 + k * (1) + j) (by omega)
    obtain ⟨h1, h2⟩ := hcell _ u hu
    exact ⟨by rw [h1]; rfl, h2⟩)
  have hnewsat : ∀ j, news[j]? = xs[(k + 1) + j]? := fun j => by rw [hnews, List.getElem?_drop]
  have z1 : k ≤ cp := by omega
  have z2 : k + 1 ≤ n := by omega
  have z3 : k + 1 ≤ cp := by omega
  have z4 : (0 : Int) ≤ (k : Int) + 1 := by omega
  have z5 : k + (n - (k + 1)) = n - 1 := by omega
  -- the row behind the append, and behind clear
  obtain ⟨W2, hW2⟩ : ∃ W2, W2 = w.drew.setCells g (0 + k * (1)) news := ⟨_, rfl⟩
  have hW := Lib.hid hW2
  obtain ⟨ys2, o2, l2, at2⟩ := own_sets news (0 + k * (1)) w.drew _ HW.out.drew (by rw [s1.out]; omega)
  rw [← hW2] at o2
  have hkp2 : Kp (fun q => q = g) w W2 := by rw [hW2]; exact Kp.sets (F := fun q => q = g) (g := g) (.inl rfl) _ _ _ (Kp.of_below (Below.refl _ w).drew _)
  obtain ⟨zs, hzs⟩ : ∃ zs : List Value, zs = [.int .i64 0] := ⟨_, rfl⟩
  have hzl : zs.length = 1 := by rw [hzs]; rfl
  have hc2 : ∀ j, j < 1 → (W2.cell? ⟨g, (n - 1) + j, none⟩).isSome = true ∧ W2.frozen? ⟨g, (n - 1) + j, none⟩ = false := fun j hj => by
    have hl2 : ys2.length = n * 1 := by rw [l2, hxl]
    obtain ⟨g', c', e1, _, h1, h2⟩ := own_at o2 (j := (n - 1) + j) (List.getElem?_eq_getElem (by omega))
    simp only [Value.slice.injEq, Option.some.injEq, Addr.mk.injEq, and_true, true_and] at e1
    obtain ⟨rfl, _⟩ := e1
    exact ⟨by rw [h1]; rfl, h2⟩
  have hcl : ∀ ty, (Builtin.clear_ #[82] ty #[.slice (some ⟨g, (n - 1), none⟩) 1 (cp - (n - 1))]).run Tryz.prog W2 = .ok (.tuple #[]) (W2.setCells g ((n - 1)) zs) := fun ty =>
    run_clear_cells W2 _ _ ty _ zs 1 (by decide) Tryz.underlying82 del_zeroI (by rw [hzs]; exact del_zerosI) (fun u hu => by
      rw [hzs] at hu
      simp only [List.mem_cons, List.not_mem_nil, or_false] at hu
      subst hu; rfl) g _ _ (fun j hj => (hc2 j (by omega)).1) (fun j hj => (hc2 j (by omega)).2)
  obtain ⟨ys3, o3, l3, at3⟩ := own_sets zs ((n - 1)) W2 _ o2 (by rw [hzl]; omega)
  have hfin : (W2.setCells g ((n - 1)) zs).ownsRow base 3 1 (.slice (some ⟨g, 0, none⟩) (n - 1) cp) (n - 1) (xs.take (k) ++ xs.drop ((k + 1))) := by
    have h1 := own_first o3 (m := n - 1) (by omega)
    have h2 : ys3.take ((n - 1) * (1)) = xs.take (k) ++ xs.drop ((k + 1)) := by
      apply List.ext_getElem?
      intro j
      have la : (xs.take (k)).length = k := by rw [List.length_take, hxl]; omega
      by_cases hj : j < (n - 1)
      · rw [List.getElem?_take_of_lt (show j < (n - 1) * (1) by omega), at3 j, if_neg (by omega), at2 j]
        by_cases h1 : j < k
        · rw [if_neg (by omega), List.getElem?_append_left (by omega), List.getElem?_take_of_lt h1]
        · rw [if_pos (by rw [s1.out]; omega), List.getElem?_append_right (by omega), la, hnews]
          congr 1; omega
      · rw [List.getElem?_eq_none (by rw [List.length_take]; omega), List.getElem?_eq_none (by rw [List.length_append, la, List.length_drop, hxl]; omega)]
    rwa [h2] at h1
  have HFIN := Lib.hid hfin
  have HKP := Lib.hid (Kp.sets (F := fun q => q = g) (g := g) (.inl rfl) zs ((n - 1)) W2 hkp2)
  have z6 : n - (n - 1) = 1 := by omega
  have z7 : n - 1 ≤ n := by omega
  have z8 : n ≤ cp := by omega
  have z9 : ¬ cp = n - 1 := by omega
  clear hfin o3 l3 at3 hc2 hzs hzl hkp2 at2 o2 l2 hW2 hnews hcp hxl
  go_enter Tryz.func151, Tryz.ntmps151
  go_wp2_with fail
  by_cases hcap : cp = k + 1
  · subst hcap
    have hcl1 : ∀ ty, (Builtin.clear_ #[82] ty #[.slice (some ⟨g, k, none⟩) (n - k) 1]).run Tryz.prog W2 = .ok (.tuple #[]) (W2.setCells g ((n - 1)) zs) := fun ty => by
      have h1 := hcl ty
      rw [show k + 1 - (n - 1) = 1 by omega] at h1
      rw [show n - k = 1 by omega, show k = (n - 1) by omega]
      exact h1
    clear hcl
    have hsrc := Lib.hid (show ∀ j u, news[j]? = some u → w.drew.cell? ((⟨g, 0, none⟩ : Addr).add j) = some u from fun j u hu => by
      have : news.length = 0 := by rw [s1.out]; omega
      rw [List.length_eq_zero_iff.1 this] at hu
      simp at hu)
    clear hcell hex hnewsat
    go_region_law (refine step_append_room rfl (.tmp 22) (.tmp 25) 82 rfl 3 i1 1 Tryz.underlying82 hi1 hy1 g 0 k (k + 1) (by simp [Act.eval, Act.put]) ⟨g, 0, none⟩ (n - (k + 1)) (k + 1 - (k + 1)) news (by simp [Act.eval, Act.put]; omega) s1.out hsrc.out s2.out (by omega) s3.out ?_; rw [← hW.out])
    go_wp2_with fail
    go_ret
    exact ⟨by rw [show n - 1 = k by omega]; rfl, HFIN.out, HKP.out⟩
  · have hsrc := Lib.hid (show ∀ j u, news[j]? = some u → w.drew.cell? ((⟨g, (k + 1), none⟩ : Addr).add j) = some u from fun j u hu => by
      rw [hnewsat] at hu
      rw [Addr.add_lit]
      exact (hcell _ u hu).1)
    clear hcell hex hnewsat
    go_region_law (refine step_append_room rfl (.tmp 22) (.tmp 25) 82 rfl 3 i1 1 Tryz.underlying82 hi1 hy1 g 0 k cp (by simp [Act.eval, Act.put]) ⟨g, (k + 1), none⟩ (n - (k + 1)) (cp - (k + 1)) news (by simp [Act.eval, Act.put]) s1.out hsrc.out s2.out (by omega) s3.out ?_; rw [← hW.out])
    go_wp2_with fail
    go_ret
    exact ⟨by rfl, HFIN.out, HKP.out⟩

end Go.Proofs.YtacoingheieceaaGreat

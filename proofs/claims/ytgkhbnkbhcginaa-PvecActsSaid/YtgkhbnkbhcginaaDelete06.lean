/- slices.Delete of one of the law's vectors. -/
import Derived.Test.YtgkhbnkbhcginaaEn06
import Derived.Deep.RegionLaw
import Derived.Lib.SliceRun
namespace Go.Proofs.Ytgkhbnkbhcginaa
open Go.RowKit

theorem own_sets {base t size g n cp : Nat} : ∀ (us : List Value) (o : Nat) (w : World) (xs : List Value), w.ownsRow base t size (.slice (some ⟨g, 0, none⟩) n cp) n xs → o + us.length ≤ n * size → ∃ ys, (w.setCells g o us).ownsRow base t size (.slice (some ⟨g, 0, none⟩) n cp) n ys ∧ ys.length = xs.length ∧ ∀ j, ys[j]? = if o ≤ j ∧ j < o + us.length then us[j - o]? else xs[j]?
  | [], o, w, xs, h, _ => ⟨xs, h, rfl, fun j => by rw [if_neg (fun h => by simp only [List.length_nil] at h; omega)]⟩
  | u :: us, o, w, xs, h, hl => by
    simp only [List.length_cons] at hl
    have h1 := own_set1 h (show o < n * size by omega) u
    obtain ⟨ys, h2, h3, h4⟩ := own_sets us (o + 1) _ _ h1 (by omega)
    refine ⟨ys, h2, by rw [h3, List.length_set], fun j => ?_⟩
    have hxl : xs.length = n * size := h.1
    rw [h4 j]
    simp only [List.length_cons]
    by_cases e : j = o
    · subst e
      rw [if_neg (by omega), if_pos (by omega), List.getElem?_set_self (by omega), Nat.sub_self]
      rfl
    · by_cases e2 : o + 1 ≤ j ∧ j < o + 1 + us.length
      · rw [if_pos e2, if_pos (by omega), show j - o = (j - (o + 1)) + 1 by omega]
        rfl
      · rw [if_neg e2, if_neg (by omega), List.getElem?_set_ne (Ne.symm e)]
/-- The beginning of a row of one's own. -/
theorem own_first {w : World} {base t size g n m cp : Nat} {xs : List Value} (h : w.ownsRow base t size (.slice (some ⟨g, 0, none⟩) n cp) n xs) (hm : m ≤ n) : w.ownsRow base t size (.slice (some ⟨g, 0, none⟩) m cp) m (xs.take (m * size)) := by
  obtain ⟨h1, h2⟩ := h
  have hms : m * size ≤ n * size := Nat.mul_le_mul_right _ hm
  refine ⟨by rw [List.length_take]; omega, ?_⟩
  rcases h2 with ⟨e, _⟩ | ⟨g', cap, cur, e, hb, hg, hc, hmx, hs, ht⟩
  · cases e
  · simp only [Value.slice.injEq, Option.some.injEq, Addr.mk.injEq, and_true, true_and] at e
    obtain ⟨rfl, rfl⟩ := e
    exact .inr ⟨g, cp, cur, rfl, hb, hg, by omega, hmx, hs, by rw [← ht, List.take_take, Nat.min_eq_left hms]⟩
theorem Kp.sets {w : World} {g : Nat} : ∀ (us : List Value) (o : Nat) (w' : World), Kp (fun q => q = g) w w' → Kp (fun q => q = g) w (w'.setCells g o us)
  | [], _, _, h => h
  | u :: us, o, _, h => Kp.sets us (o + 1) _ (h.setCell (.inl rfl) u)
theorem oinfo : (Try.prog.info? 34).map (fun i => (i.zero, i.size, i.bytes)) = some (some (.agg #[.int .i64 0, .int .i64 0, .int .i64 0, .slice none 0 0, .int .u32 0]), 5, 56) := by kernel_rfl
theorem flat5_erase (E : List En) (k : Nat) (hk : k < E.length) (ys : List Value) (hy : ∀ j, j < (E.length - 1) * 5 → ys[j]? = if j < k * 5 then (E.flatMap cells5)[j]? else ((E.drop (k + 1)).flatMap cells5)[j - k * 5]?) (hyl : (E.length - 1) * 5 ≤ ys.length) : ys.take ((E.length - 1) * 5) = (E.eraseIdx k).flatMap cells5 := by
  have he : E.eraseIdx k = E.take k ++ E.drop (k + 1) := by rw [List.eraseIdx_eq_take_drop_succ]
  rw [he, List.flatMap_append]
  have l1 : ((E.take k).flatMap cells5).length = k * 5 := by rw [flat5_length, List.length_take, Nat.min_eq_left (by omega)]
  have l2 : ((E.drop (k + 1)).flatMap cells5).length = (E.length - (k + 1)) * 5 := by rw [flat5_length, List.length_drop]
  apply List.ext_getElem?
  intro j
  by_cases hj : j < (E.length - 1) * 5
  · rw [List.getElem?_take_of_lt hj, hy j hj]
    by_cases h1 : j < k * 5
    · rw [if_pos h1, List.getElem?_append_left (by omega)]
      have e2 : E.flatMap cells5 = (E.take k).flatMap cells5 ++ (E.drop k).flatMap cells5 := by rw [← List.flatMap_append, List.take_append_drop]
      rw [e2, List.getElem?_append_left (by omega)]
    · rw [if_neg h1, List.getElem?_append_right (by omega), l1]
  · rw [List.getElem?_eq_none (by rw [List.length_take]; omega), List.getElem?_eq_none (by rw [List.length_append, l1, l2]; omega)]
/-- 'clear(s)', s a slice of one element of several cells. -/
theorem run_clear_one {P : Program} (w : World) (t e ty : TypeId) (z : Value) (zs : List Value) (ht : P.underlying t = some (.slice e)) (hv : ∀ w, (zeroValue e).run P w = .ok z w) (hz : z.cells.toList = zs) (h1 : ∀ u ∈ zs, u.oneCell' = true) (b o c : Nat)
    (hc : ∀ j, j < zs.length → (w.cell? ⟨b, o + j, none⟩).isSome = true) (hf : ∀ j, j < zs.length → w.frozen? ⟨b, o + j, none⟩ = false) :
    (Builtin.clear_ #[t] ty #[.slice (some ⟨b, o, none⟩) 1 c]).run P w = .ok (.tuple #[]) (w.setCells b o zs) := by
  have hzc : (Builtin.zeroCells z.cells 1).toList = zs := by
    rw [← hz]
    apply List.ext_getElem
    · simp [Builtin.zeroCells]
    · intro i h1 h2
      have h3 : i < z.cells.size := by simpa using h2
      simp [Builtin.zeroCells, Nat.mod_eq_of_lt h3]
      exact getElem!_pos z.cells i h3
  have hst := run_storeCells_cells (P := P) b o zs 0 w (by simpa using hc) (by simpa using hf) (fun v hv' => h1 v hv')
  simp only [Nat.add_zero] at hst
  simp [Builtin.clear_, run_underlying ht, hv, hzc, hst]
theorem ozero (w : World) : (zeroValue 34).run Try.prog w = .ok (.agg #[.int .i64 0, .int .i64 0, .int .i64 0, .slice none 0 0, .int .u32 0]) w := by kernel_rfl
set_option maxRecDepth 100000 in
set_option maxHeartbeats 1600000 in
theorem delete_one (g cp k base : Nat) (E : List En) (w : World) (h : w.ownsRow base 34 5 (.slice (some ⟨g, 0, none⟩) E.length cp) E.length (E.flatMap cells5)) (hk : k < E.length) (hE : E.length ≤ 1000) (hs : ∀ e ∈ E, e.s.oneCell' = true) :
    Calls Try.prog 21 #[.slice (some ⟨g, 0, none⟩) E.length cp, .int .i64 k, .int .i64 ((k : Int) + 1)] w fun x w' => x = .returned (.slice (some ⟨g, 0, none⟩) (E.length - 1 : Nat) cp) ∧
      w'.ownsRow base 34 5 (.slice (some ⟨g, 0, none⟩) (E.length - 1) cp) (E.length - 1) ((E.eraseIdx k).flatMap cells5) ∧ Kp (fun q => q = g) w w' := by
  obtain ⟨i1, hi1, hy0, hy1, hy2⟩ := info_parts oinfo
  have hcp : E.length ≤ cp ∧ cp ≤ maxLen := by
    rcases h.2 with ⟨e, _⟩ | ⟨g', cap, cur, e, _, _, hc, hm, _⟩
    · cases e
    · simp only [Value.slice.injEq, Option.some.injEq, Addr.mk.injEq, and_true, true_and] at e
      rw [e.2]; exact ⟨hc, hm⟩
  obtain ⟨n, hn⟩ : ∃ n, n = E.length := ⟨_, rfl⟩
  rw [← hn] at h hk hE hcp ⊢
  have HW := Lib.hid h
  have HN := Lib.hid hn
  have hkn : (k : Int) + 1 ≤ (n : Int) := by omega
  have hnc : (n : Int) ≤ (cp : Int) := by omega
  have hk1 : (k : Int) ≤ (k : Int) + 1 := by omega
  have hk0 : (0 : Int) ≤ (k : Int) := by omega
  have hcm : cp ≤ 9223372036854775807 := by have := hcp.2; unfold maxLen at this; omega
  have hne : ¬ (k : Int) = (k : Int) + 1 := by omega
  have hneb : ((k : Int) == (k : Int) + 1) = false := by simpa using hne
  clear h hn
  go_enter Try.func21, Try.ntmps21
  go_wp2_with fail
  have hcell : ∀ j u, (E.flatMap cells5)[j]? = some u → w.drew.cell? ⟨g, j, none⟩ = some u ∧ w.drew.frozen? ⟨g, j, none⟩ = false := fun j u hj => by
    obtain ⟨g', c', e1, _, h1, h2⟩ := own_at HW.out (j := j) (u := u) hj
    simp only [Value.slice.injEq, Option.some.injEq, Addr.mk.injEq, and_true, true_and] at e1
    obtain ⟨rfl, _⟩ := e1
    exact ⟨h1, h2⟩
  have hfl : (E.flatMap cells5).length = n * 5 := by rw [flat5_length, HN.out]
  have hex : ∀ j, j < n * 5 → ∃ u, (E.flatMap cells5)[j]? = some u := fun j hj => ⟨_, List.getElem?_eq_getElem (by omega)⟩
  obtain ⟨news, hnews⟩ : ∃ news, news = (E.drop (k + 1)).flatMap cells5 := ⟨_, rfl⟩
  have s1 := Lib.hid (show news.length = (n - (k + 1)) * 5 by rw [hnews, flat5_length, List.length_drop, HN.out])
  have s2 := Lib.hid (show ∀ u ∈ news, u.oneCell' = true from fun u hu => by
    rw [hnews] at hu
    obtain ⟨e, he, hu⟩ := List.mem_flatMap.1 hu
    have hs' := hs e (List.mem_of_mem_drop he)
    simp only [cells5, List.mem_cons, List.not_mem_nil, or_false] at hu
    rcases hu with rfl | rfl | rfl | rfl | rfl
    · rfl
    · rfl
    · rfl
    · exact hs'
    · rfl)
  have s3 := Lib.hid (show ∀ j, j < news.length → (w.drew.cell? ⟨g, 0 + k * 5 + j, none⟩).isSome = true ∧ w.drew.frozen? ⟨g, 0 + k * 5 + j, none⟩ = false from fun j hj => by
    rw [s1.out] at hj
    obtain ⟨u, hu⟩ := hex (0 + k * 5 + j) (by omega)
    obtain ⟨h1, h2⟩ := hcell _ u hu
    exact ⟨by rw [h1]; rfl, h2⟩)
  have hnewsat : ∀ j, news[j]? = (E.flatMap cells5)[(k + 1) * 5 + j]? := fun j => by
    have e2 : E.flatMap cells5 = (E.take (k + 1)).flatMap cells5 ++ (E.drop (k + 1)).flatMap cells5 := by rw [← List.flatMap_append, List.take_append_drop]
    have l1 : ((E.take (k + 1)).flatMap cells5).length = (k + 1) * 5 := by rw [flat5_length, List.length_take, Nat.min_eq_left (by rw [← HN.out]; omega)]
    rw [e2, List.getElem?_append_right (by omega), l1, hnews]
    congr 1; omega
  have z1 : k ≤ cp := by omega
  have z2 : k + 1 ≤ n := by omega
  have z3 : k + 1 ≤ cp := by omega
  have z4 : (0 : Int) ≤ (k : Int) + 1 := by omega
  have z5 : k + (n - (k + 1)) = n - 1 := by omega
  -- the row behind the append, and behind clear
  obtain ⟨W2, hW2⟩ : ∃ W2, W2 = w.drew.setCells g (0 + k * 5) news := ⟨_, rfl⟩
  have hW := Lib.hid hW2
  obtain ⟨ys2, o2, l2, at2⟩ := own_sets news (0 + k * 5) w.drew _ HW.out.drew (by rw [s1.out]; omega)
  rw [← hW2] at o2
  have hkp2 : Kp (fun q => q = g) w W2 := by rw [hW2]; exact Kp.sets _ _ _ (Kp.of_below (Below.refl _ w).drew _)
  obtain ⟨zs, hzs⟩ : ∃ zs : List Value, zs = [.int .i64 0, .int .i64 0, .int .i64 0, .slice none 0 0, .int .u32 0] := ⟨_, rfl⟩
  have hzl : zs.length = 5 := by rw [hzs]; rfl
  have hc2 : ∀ j, j < 5 → (W2.cell? ⟨g, (n - 1) * 5 + j, none⟩).isSome = true ∧ W2.frozen? ⟨g, (n - 1) * 5 + j, none⟩ = false := fun j hj => by
    have hl2 : ys2.length = n * 5 := by rw [l2, hfl]
    obtain ⟨g', c', e1, _, h1, h2⟩ := own_at o2 (j := (n - 1) * 5 + j) (List.getElem?_eq_getElem (by omega))
    simp only [Value.slice.injEq, Option.some.injEq, Addr.mk.injEq, and_true, true_and] at e1
    obtain ⟨rfl, _⟩ := e1
    exact ⟨by rw [h1]; rfl, h2⟩
  have hcl : ∀ ty, (Builtin.clear_ #[35] ty #[.slice (some ⟨g, (n - 1) * 5, none⟩) 1 (cp - (n - 1))]).run Try.prog W2 = .ok (.tuple #[]) (W2.setCells g ((n - 1) * 5) zs) := fun ty =>
    run_clear_one W2 _ _ ty _ zs Try.underlying35 ozero (by rw [hzs]; rfl) (fun u hu => by
      rw [hzs] at hu
      simp only [List.mem_cons, List.not_mem_nil, or_false] at hu
      rcases hu with rfl | rfl | rfl | rfl | rfl <;> rfl) g _ _ (fun j hj => (hc2 j (by omega)).1) (fun j hj => (hc2 j (by omega)).2)
  obtain ⟨ys3, o3, l3, at3⟩ := own_sets zs ((n - 1) * 5) W2 _ o2 (by rw [hzl]; omega)
  have hfin : (W2.setCells g ((n - 1) * 5) zs).ownsRow base 34 5 (.slice (some ⟨g, 0, none⟩) (n - 1) cp) (n - 1) ((E.eraseIdx k).flatMap cells5) := by
    have h1 := own_first o3 (m := n - 1) (by omega)
    have h2 := flat5_erase E k (by rw [← HN.out]; exact hk) ys3 (fun j hj => by
      rw [← HN.out] at hj
      rw [at3 j, if_neg (by omega), at2 j]
      by_cases h1 : j < k * 5
      · rw [if_neg (by omega), if_pos h1]
      · rw [if_pos (by rw [s1.out]; omega), if_neg h1, hnews]
        congr 1; omega) (by rw [← HN.out, l3, l2, hfl]; omega)
    rw [← HN.out] at h2
    rwa [h2] at h1
  have HFIN := Lib.hid hfin
  have HKP := Lib.hid (Kp.sets zs ((n - 1) * 5) W2 hkp2)
  have z6 : n - (n - 1) = 1 := by omega
  have z7 : n - 1 ≤ n := by omega
  have z8 : n ≤ cp := by omega
  have z9 : ¬ cp = n - 1 := by omega
  clear hfin o3 l3 at3 hc2 hzs hzl hkp2 at2 o2 l2 hW2 hnews
  by_cases hcap : cp = k + 1
  · subst hcap
    have hcl1 : ∀ ty, (Builtin.clear_ #[35] ty #[.slice (some ⟨g, k * 5, none⟩) (n - k) 1]).run Try.prog W2 = .ok (.tuple #[]) (W2.setCells g ((n - 1) * 5) zs) := fun ty => by
      have h1 := hcl ty
      rw [show k + 1 - (n - 1) = 1 by omega] at h1
      rw [show n - k = 1 by omega, show k * 5 = (n - 1) * 5 by omega]
      exact h1
    clear hcl
    have hsrc := Lib.hid (show ∀ j u, news[j]? = some u → w.drew.cell? ((⟨g, 0, none⟩ : Addr).add j) = some u from fun j u hu => by
      have : news.length = 0 := by rw [s1.out]; omega
      rw [List.length_eq_zero_iff.1 this] at hu
      simp at hu)
    clear hcell hex hnewsat hfl
    go_region_law (refine step_append_room rfl (.tmp 22) (.tmp 25) 35 rfl 34 i1 5 Try.underlying35 hi1 hy1 g 0 k (k + 1) (by simp [Act.eval, Act.put]) ⟨g, 0, none⟩ (n - (k + 1)) (k + 1 - (k + 1)) news (by simp [Act.eval, Act.put]; omega) s1.out hsrc.out s2.out (by omega) s3.out ?_; rw [← hW.out])
    go_wp2_with fail
    go_ret
    exact ⟨by rw [show n - 1 = k by omega]; rfl, HFIN.out, HKP.out⟩
  · have hsrc := Lib.hid (show ∀ j u, news[j]? = some u → w.drew.cell? ((⟨g, (k + 1) * 5, none⟩ : Addr).add j) = some u from fun j u hu => by
      rw [hnewsat] at hu
      rw [Addr.add_lit]
      exact (hcell _ u hu).1)
    clear hcell hex hnewsat hfl
    go_region_law (refine step_append_room rfl (.tmp 22) (.tmp 25) 35 rfl 34 i1 5 Try.underlying35 hi1 hy1 g 0 k cp (by simp [Act.eval, Act.put]) ⟨g, (k + 1) * 5, none⟩ (n - (k + 1)) (cp - (k + 1)) news (by simp [Act.eval, Act.put]) s1.out hsrc.out s2.out (by omega) s3.out ?_; rw [← hW.out])
    go_wp2_with fail
    go_ret
    exact ⟨by rfl, HFIN.out, HKP.out⟩

end Go.Proofs.Ytgkhbnkbhcginaa

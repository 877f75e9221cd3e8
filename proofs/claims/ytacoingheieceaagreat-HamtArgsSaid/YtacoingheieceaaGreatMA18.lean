/- Several texts in one. -/
import Derived.Test.YtacoingheieceaaGreatMA01
import Derived.Deep.RegionLaw
import Derived.Lib.SliceRun
import Derived.Test.YtacoingheieceaaGreatMA02
import Derived.Test.YtacoingheieceaaGreatMA11
import Derived.Test.YtacoingheieceaaGreatMA17
/- slices.Delete of a row of one's own: values, two. -/
namespace Go.Proofs.YtacoingheieceaaGreat
open Go.RowKit

theorem del_infoV : (Tryz.prog.info? 43).map (fun i => (i.zero, i.size, i.bytes)) = some (some (.agg #[.int .u8 0, .int .i64 0, .string ⟨#[]⟩]), 3, 32) := by kernel_rfl
theorem del_zeroV (w : World) : (zeroValue 43).run Tryz.prog w = .ok (.agg #[.int .u8 0, .int .i64 0, .string ⟨#[]⟩]) w := by kernel_rfl
theorem del_zerosV : (Builtin.zeroCells ((.agg #[.int .u8 0, .int .i64 0, .string ⟨#[]⟩]) : Value).cells 2).toList = [.int .u8 0, .int .i64 0, .string ⟨#[]⟩, .int .u8 0, .int .i64 0, .string ⟨#[]⟩] := by kernel_rfl
set_option maxRecDepth 100000 in
set_option maxHeartbeats 1600000 in
theorem vdeleteV (base g n cp k : Nat) (xs : List Value) (w : World) (h : w.ownsRow base 43 3 (.slice (some ⟨g, 0, none⟩) n cp) n xs) (hk : k + 2 ≤ n) (h1x : ∀ u ∈ xs, u.oneCell' = true) :
    Calls Tryz.prog 53 #[.slice (some ⟨g, 0, none⟩) n cp, .int .i64 k, .int .i64 ((k : Int) + 2)] w fun x w' => x = .returned (.slice (some ⟨g, 0, none⟩) (n - 2 : Nat) cp) ∧
      w'.ownsRow base 43 3 (.slice (some ⟨g, 0, none⟩) (n - 2) cp) (n - 2) (xs.take (k * 3) ++ xs.drop ((k + 2) * 3)) ∧ Kp (fun q => q = g) w w' := by
  obtain ⟨i1, hi1, hy0, hy1, hy2⟩ := info_parts del_infoV
  have hcp := own_cap h
  have hxl : xs.length = n * 3 := h.1
  have HW := Lib.hid h
  have hkn : (k : Int) + 2 ≤ (n : Int) := by omega
  have hnc : (n : Int) ≤ (cp : Int) := by omega
  have hk1 : (k : Int) ≤ (k : Int) + 2 := by omega
  have hk0 : (0 : Int) ≤ (k : Int) := by omega
  have hcm := hcp.2
  have hne : ¬ (k : Int) = (k : Int) + 2 := by omega
  have hneb : ((k : Int) == (k : Int) + 2) = false := by simpa using hne
  have htn : ((k : Int) + 2).toNat = k + 2 := by omega
  have hcell : ∀ j u, xs[j]? = some u → w.drew.cell? ⟨g, j, none⟩ = some u ∧ w.drew.frozen? ⟨g, j, none⟩ = false := fun j u hj => by
    obtain ⟨g', c', e1, _, h1, h2⟩ := own_at h (j := j) (u := u) hj
    simp only [Value.slice.injEq, Option.some.injEq, Addr.mk.injEq, and_true, true_and] at e1
    obtain ⟨rfl, _⟩ := e1
    exact ⟨h1, h2⟩
  have hex : ∀ j, j < n * 3 → ∃ u, xs[j]? = some u := fun j hj => ⟨_, List.getElem?_eq_getElem (by omega)⟩
  clear h
  obtain ⟨news, hnews⟩ : ∃ news, news = xs.drop ((k + 2) * 3) := ⟨_, rfl⟩
  have s1 := Lib.hid (show news.length = (n - (k + 2)) * (3) by rw [hnews, List.length_drop, hxl]; omega)
  have s2 := Lib.hid (show ∀ u ∈ news, u.oneCell' = true from fun u hu => h1x u (by rw [hnews] at hu; exact List.mem_of_mem_drop hu))
  have s3 := Lib.hid (show ∀ j, j < news.length → (w.drew.cell? ⟨g, 0 + k * (3) + j, none⟩).isSome = true ∧ w.drew.frozen? ⟨g, 0 + k * (3) + j, none⟩ = false from fun j hj => by
    rw [s1.out] at hj
    obtain ⟨u, hu⟩ := hex (0 + k * (3) + j) (by omega)
    obtain ⟨h1, h2⟩ := hcell _ u hu
    exact ⟨by rw [h1]; rfl, h2⟩)
  have hnewsat : ∀ j, news[j]? = xs[(k + 2) * 3 + j]? := fun j => by rw [hnews, List.getElem?_drop]
  have z1 : k ≤ cp := by omega
  have z2 : k + 2 ≤ n := by omega
  have z3 : k + 2 ≤ cp := by omega
  have z4 : (0 : Int) ≤ (k : Int) + 2 := by omega
  have z5 : k + (n - (k + 2)) = n - 2 := by omega
  -- the row behind the append, and behind clear
  obtain ⟨W2, hW2⟩ : ∃ W2, W2 = w.drew.setCells g (0 + k * (3)) news := ⟨_, rfl⟩
  have hW := Lib.hid hW2
  obtain ⟨ys2, o2, l2, at2⟩ := own_sets news (0 + k * (3)) w.drew _ HW.out.drew (by rw [s1.out]; omega)
  rw [← hW2] at o2
  have hkp2 : Kp (fun q => q = g) w W2 := by rw [hW2]; exact Kp.sets (F := fun q => q = g) (g := g) (.inl rfl) _ _ _ (Kp.of_below (Below.refl _ w).drew _)
  obtain ⟨zs, hzs⟩ : ∃ zs : List Value, zs = [.int .u8 0, .int .i64 0, .string ⟨#[]⟩, .int .u8 0, .int .i64 0, .string ⟨#[]⟩] := ⟨_, rfl⟩
  have hzl : zs.length = 2 * 3 := by rw [hzs]; rfl
  have hc2 : ∀ j, j < 2 * 3 → (W2.cell? ⟨g, (n - 2) * 3 + j, none⟩).isSome = true ∧ W2.frozen? ⟨g, (n - 2) * 3 + j, none⟩ = false := fun j hj => by
    have hl2 : ys2.length = n * 3 := by rw [l2, hxl]
    obtain ⟨g', c', e1, _, h1, h2⟩ := own_at o2 (j := (n - 2) * 3 + j) (List.getElem?_eq_getElem (by omega))
    simp only [Value.slice.injEq, Option.some.injEq, Addr.mk.injEq, and_true, true_and] at e1
    obtain ⟨rfl, _⟩ := e1
    exact ⟨by rw [h1]; rfl, h2⟩
  have hcl : ∀ ty, (Builtin.clear_ #[66] ty #[.slice (some ⟨g, (n - 2) * 3, none⟩) 2 (cp - (n - 2))]).run Tryz.prog W2 = .ok (.tuple #[]) (W2.setCells g ((n - 2) * 3) zs) := fun ty =>
    run_clear_cells W2 _ _ ty _ zs 2 (by decide) Tryz.underlying66 del_zeroV (by rw [hzs]; exact del_zerosV) (fun u hu => by
      rw [hzs] at hu
      simp only [List.mem_cons, List.not_mem_nil, or_false] at hu
      rcases hu with rfl | rfl | rfl | rfl | rfl | rfl <;> rfl) g _ _ (fun j hj => (hc2 j (by omega)).1) (fun j hj => (hc2 j (by omega)).2)
  obtain ⟨ys3, o3, l3, at3⟩ := own_sets zs ((n - 2) * 3) W2 _ o2 (by rw [hzl]; omega)
  have hfin : (W2.setCells g ((n - 2) * 3) zs).ownsRow base 43 3 (.slice (some ⟨g, 0, none⟩) (n - 2) cp) (n - 2) (xs.take (k * 3) ++ xs.drop ((k + 2) * 3)) := by
    have h1 := own_first o3 (m := n - 2) (by omega)
    have h2 : ys3.take ((n - 2) * (3)) = xs.take (k * 3) ++ xs.drop ((k + 2) * 3) := by
      apply List.ext_getElem?
      intro j
      have la : (xs.take (k * 3)).length = k * 3 := by rw [List.length_take, hxl]; omega
      by_cases hj : j < (n - 2) * 3
      · rw [List.getElem?_take_of_lt (show j < (n - 2) * (3) by omega), at3 j, if_neg (by omega), at2 j]
        by_cases h1 : j < k * 3
        · rw [if_neg (by omega), List.getElem?_append_left (by omega), List.getElem?_take_of_lt h1]
        · rw [if_pos (by rw [s1.out]; omega), List.getElem?_append_right (by omega), la, hnews]
          congr 1; omega
      · rw [List.getElem?_eq_none (by rw [List.length_take]; omega), List.getElem?_eq_none (by rw [List.length_append, la, List.length_drop, hxl]; omega)]
    rwa [h2] at h1
  have HFIN := Lib.hid hfin
  have HKP := Lib.hid (Kp.sets (F := fun q => q = g) (g := g) (.inl rfl) zs ((n - 2) * 3) W2 hkp2)
  have z6 : n - (n - 2) = 2 := by omega
  have z7 : n - 2 ≤ n := by omega
  have z8 : n ≤ cp := by omega
  have z9 : ¬ cp = n - 2 := by omega
  clear hfin o3 l3 at3 hc2 hzs hzl hkp2 at2 o2 l2 hW2 hnews hcp hxl
  go_enter Tryz.func53, Tryz.ntmps53
  go_wp2_with fail
  by_cases hcap : cp = k + 2
  · subst hcap
    have hcl1 : ∀ ty, (Builtin.clear_ #[66] ty #[.slice (some ⟨g, k * 3, none⟩) (n - k) 2]).run Tryz.prog W2 = .ok (.tuple #[]) (W2.setCells g ((n - 2) * 3) zs) := fun ty => by
      have h1 := hcl ty
      rw [show k + 2 - (n - 2) = 2 by omega] at h1
      rw [show n - k = 2 by omega, show k * 3 = (n - 2) * 3 by omega]
      exact h1
    clear hcl
    have hsrc := Lib.hid (show ∀ j u, news[j]? = some u → w.drew.cell? ((⟨g, 0, none⟩ : Addr).add j) = some u from fun j u hu => by
      have : news.length = 0 := by rw [s1.out]; omega
      rw [List.length_eq_zero_iff.1 this] at hu
      simp at hu)
    clear hcell hex hnewsat
    go_region_law (refine step_append_room rfl (.tmp 22) (.tmp 25) 66 rfl 43 i1 3 Tryz.underlying66 hi1 hy1 g 0 k (k + 2) (by simp [Act.eval, Act.put]) ⟨g, 0, none⟩ (n - (k + 2)) (k + 2 - (k + 2)) news (by simp [Act.eval, Act.put]; omega) s1.out hsrc.out s2.out (by omega) s3.out ?_; rw [← hW.out])
    go_wp2_with fail
    go_ret
    exact ⟨by rw [show n - 2 = k by omega]; rfl, HFIN.out, HKP.out⟩
  · have hsrc := Lib.hid (show ∀ j u, news[j]? = some u → w.drew.cell? ((⟨g, (k + 2) * 3, none⟩ : Addr).add j) = some u from fun j u hu => by
      rw [hnewsat] at hu
      rw [Addr.add_lit]
      exact (hcell _ u hu).1)
    clear hcell hex hnewsat
    go_region_law (refine step_append_room rfl (.tmp 22) (.tmp 25) 66 rfl 43 i1 3 Tryz.underlying66 hi1 hy1 g 0 k cp (by simp [Act.eval, Act.put]) ⟨g, (k + 2) * 3, none⟩ (n - (k + 2)) (cp - (k + 2)) news (by simp [Act.eval, Act.put]) s1.out hsrc.out s2.out (by omega) s3.out ?_; rw [← hW.out])
    go_wp2_with fail
    go_ret
    exact ⟨by rfl, HFIN.out, HKP.out⟩

end Go.Proofs.YtacoingheieceaaGreat

/- Books: small words of counting. -/
namespace Go.Proofs.YtacoingheieceaaGreat
open Go.RowKit

theorem ChgS.mono {f : FuncId} {caps : Array Value} {b most : Nat} {F : Nat → Prop} {w : World} {M1 : Cells} {c : Hc} {R R' : Hc → Cells → Prop} (h : ChgS f caps b most F w M1 c R) (hR : ∀ c' M2, R c' M2 → R' c' M2) : ChgS f caps b most F w M1 c R' := by
  intro o v k W F1 h1 h2 h3 h4 h5
  refine (h o v k W F1 h1 h2 h3 h4 h5).mono ?_
  rintro e W' ⟨v', k', c', M2, F2, a1, a2, a3, a4, a5, a6, a7⟩
  exact ⟨v', k', c', M2, F2, a1, a2, a3, a4, a5, a6, hR _ _ a7⟩
theorem addP_lt {P : Nat → Nat} {B : Nat} (h : ∀ j, P j ≤ B) (i j : Nat) : addP P i j ≤ B + 1 := by
  have := h j
  unfold addP
  split <;> omega
theorem count_erase_set : ∀ (l : List Nat) (j a b k : Nat), l[j]? = some a → l.count k = (l.eraseIdx j).count k + [a].count k ∧ (l.set j b).count k = (l.eraseIdx j).count k + [b].count k
  | [], _, _, _, _, h => by simp at h
  | x :: l, 0, a, b, k, h => by
    obtain rfl : x = a := by simpa using h
    simp only [List.eraseIdx_zero, List.tail_cons, List.set_cons_zero, List.count_cons, List.count_nil]
    omega
  | x :: l, j + 1, a, b, k, h => by
    have ih := count_erase_set l j a b k (by simpa using h)
    simp only [List.eraseIdx_cons_succ, List.set_cons_succ, List.count_cons, List.count_nil] at *
    omega

section
variable {b most : Nat} {M : Cells} {F : Nat → Prop} {P : Nat → Nat}
theorem bk_rf {hs : List Nat} (hm : most ≤ 1048576) (hP : ∀ j, P j ≤ 576460752303423488) (hb : Bk (most + 1) M [] P hs) (hl : hs.length ≤ 64) (j : Nat) : rf (M j) ≤ 4611686018420000000 := by
  have h1 := hb.rfb j
  have h2 := hP j
  have h3 : hs.count j ≤ 64 := Nat.le_trans List.count_le_length hl
  have h4 : (most + 1) * 64 ≤ 1048577 * 64 := Nat.mul_le_mul_right _ (by omega)
  omega
end

end Go.Proofs.YtacoingheieceaaGreat

/- Package hamt: what put and take do to a leaf: functions that change the values alone. -/
namespace Go.Proofs.YtacoingheieceaaGreat
set_option maxRecDepth 100000
open Go.RowKit

theorem Rn.notF {w W : World} {b most : Nat} {M : Cells} {F F1 : Nat → Prop} (h : Rn w W b most M F F1) {q : Nat} (hq : W.heap.size ≤ q) : ¬ F1 q := fun hf => by
  have := h.ar.lt hf
  omega
/-- A function that changes the values of a cell alone. -/
theorem chgS_vals {f : FuncId} {caps : Array Value} {b most : Nat} {F : Nat → Prop} {w : World} {M1 : Cells} {c : Hc} (vals' : List V3)
    (hc : ∀ (o : Int) (A1 A2 : Option Addr) (c1 c2 : Nat) (W : World) (F1 : Nat → Prop), Rn w W b most M1 F F1 → W.ownsRow w.heap.size 43 3 (.slice A1 c.vals.length c1) c.vals.length (c.vals.flatMap cells3) →
      Calls Tryz.prog f (#[cagg o c.a c.b (.slice A1 c.vals.length c1) (.slice A2 c.kids.length c2)] ++ caps) W fun e W' => ∃ A3 c3 n3, e = .returned (cagg o c.a c.b (.slice A3 n3 c3) (.slice A2 c.kids.length c2)) ∧ n3 = vals'.length ∧
        W'.ownsRow w.heap.size 43 3 (.slice A3 n3 c3) n3 (vals'.flatMap cells3) ∧ Kp (fun q => (Value.slice A1 c.vals.length c1).ownBlock = some q) W W' ∧ (∀ q, (Value.slice A3 n3 c3).ownBlock = some q → (Value.slice A1 c.vals.length c1).ownBlock = some q ∨ W.heap.size ≤ q)) :
    ChgS f caps b most F w M1 c (fun c' M2 => c' = { c with vals := vals' } ∧ M2 = M1) := by
  intro o v k W F1 hRn nv nk o1 o2
  obtain ⟨A1, c1, rfl, _⟩ := (Rd.of_own o1).form
  obtain ⟨A2, c2, rfl, _⟩ := (Rd.of_own o2).form
  refine (hc o A1 A2 c1 c2 W F1 hRn o1).mono ?_
  rintro e W' ⟨A3, c3, n3, rfl, rfl, io, ik, ib⟩
  have hne : ∀ q, (Value.slice A2 c.kids.length c2).ownBlock = some q → ¬ (Value.slice A1 c.vals.length c1).ownBlock = some q := fun q hq e => by
    obtain ⟨cur, hcur⟩ := own_type o1 q e
    exact own_ne o2 hcur (by decide) q hq rfl
  refine ⟨_, _, { c with vals := vals' }, M1, F1, rfl, Rd.of_own io, Rd.of_own (ik.own o2 hne), hRn.mine ik (fun g hg => ⟨(own_blk o1 g hg).1, nv g hg⟩), fun q hq => ?_, nk, rfl, rfl⟩
  rcases ib q hq with h | h
  · exact nv q h
  · exact hRn.notF h
section
set_option maxHeartbeats 1600000 in
theorem vput2 (x : Wv) (zw zk zv : Nat) (o a b : Int) (l : List Pr) (k v : Ky) (base : Nat) (A1 A2 : Option Addr) (n1 c1 n2 c2 : Nat) (w : World) (hw : WC w zw x) (hk : C3 w zk 43 (.int .u8 k.1) (.int .i64 k.2.1) (.string k.2.2)) (hv : C3 w zv 43 (.int .u8 v.1) (.int .i64 v.2.1) (.string v.2.2))
    (hat : x.at' = 2 * lowN k l) (hhas : x.has = hasN k l) (hl : l.length ≤ 4096) (hn1 : n1 = (flatP l).length) (own : w.ownsRow base 43 3 (.slice A1 n1 c1) n1 ((flatP l).flatMap cells3)) (hB : base ≤ w.heap.size) :
    Calls Tryz.prog 112 (#[cagg o a b (.slice A1 n1 c1) (.slice A2 n2 c2)] ++ #[.pointer (some ⟨zw, 0, none⟩), .pointer (some ⟨zk, 0, none⟩), .pointer (some ⟨zv, 0, none⟩)]) w fun e w' => ∃ A3 c3 n3, e = .returned (cagg o a b (.slice A3 n3 c3) (.slice A2 n2 c2)) ∧ n3 = (flatP (leafP k v l)).length ∧
      w'.ownsRow base 43 3 (.slice A3 n3 c3) n3 ((flatP (leafP k v l)).flatMap cells3) ∧ Kp (fun q => (Value.slice A1 n1 c1).ownBlock = some q) w w' ∧ (∀ q, (Value.slice A3 n3 c3).ownBlock = some q → (Value.slice A1 n1 c1).ownBlock = some q ∨ w.heap.size ≤ q) := by
  obtain ⟨W0, hW0⟩ : ∃ W0, W0 = (w.alloc (.cells #[.int .u32 o, .int .u32 a, .int .u32 b, .slice A1 n1 c1, .slice A2 n2 c2] 170)).alloc (.cells #[.int .u32 0, .int .u32 0, .int .u32 0, .slice none 0 0, .slice none 0 0] 170) := ⟨_, rfl⟩
  have hsz : W0.heap.size = w.heap.size + 1 + 1 := by rw [hW0]; simp
  have hb0 : Below w.heap.size w W0 := by rw [hW0]; exact ((Below.refl _ w).alloc (Nat.le_refl _) _).alloc (by simp) _
  have q1 : C5 W0 w.heap.size 170 (.int .u32 o) (.int .u32 a) (.int .u32 b) (.slice A1 n1 c1) (.slice A2 n2 c2) := by
    rw [hW0]; exact (C5.new w 170 (.int .u32 o) (.int .u32 a) (.int .u32 b) (.slice A1 n1 c1) (.slice A2 n2 c2)).alloc _
  have q2 : C5 W0 (w.heap.size + 1) 170 (.int .u32 0) (.int .u32 0) (.int .u32 0) (.slice none 0 0) (.slice none 0 0) := by
    have := C5.new (w.alloc (.cells #[.int .u32 o, .int .u32 a, .int .u32 b, .slice A1 n1 c1, .slice A2 n2 c2] 170)) 170 (.int .u32 0) (.int .u32 0) (.int .u32 0) (.slice none 0 0) (.slice none 0 0)
    rw [hW0]
    simpa using this
  have own0 := (Kp.of_below hb0 (fun _ => False)).own own (fun _ _ h => h)
  have HKO := Lib.hid (show ∀ q, (Value.slice A1 n1 c1).ownBlock = some q → q < w.heap.size from fun q hq => (own_blk own q hq).2)
  subst hn1
  have HP := Lib.hid (vwithPair x o a b l k v base (.slice A1 (flatP l).length c1) A2 n2 c2 W0 hat hhas hl own0 (by omega))
  have HB0 := Lib.hid hb0
  have HSZ := Lib.hid hsz
  obtain ⟨m0, m1, m2, m3, m4, m5, m6, m7, m8, m9⟩ := (hw.below hb0).all
  obtain ⟨k0, k1, k2, _⟩ := (hk.below hb0).all
  obtain ⟨v0, v1, v2, _⟩ := (hv.below hb0).all
  obtain ⟨x0, x1, x2, x3, x4, _⟩ := q1.all
  have Q2 := Lib.hid q2
  have HW0 := Lib.hid hW0
  obtain ⟨n1, hn1⟩ : ∃ n1, n1 = (flatP l).length := ⟨_, rfl⟩
  rw [← hn1] at HP HKO x3 ⊢ HW0
  clear hat hhas own own0 hb0 hsz hw hk hv q1 q2 hW0 hn1 hB hl
  go_enter Tryz.func112, Tryz.ntmps112
  go_upto_region 1 with fail
  rw [← HW0.out]
  clear HW0
  go_wp2_with fail
  refine HP.out.mono ?_
  rintro e W1 ⟨A3, c3, n3, rfl, hn3, io, ik, ib⟩
  have q2 := Q2.out.kp ik (fun e => by have := HKO.out _ e; omega)
  obtain ⟨z0, z1, z2, z3, z4, u0, u1, u2, u3, u4⟩ := q2.all
  have IO := Lib.hid (And.intro hn3 io)
  have IK := Lib.hid ik
  have IB := Lib.hid ib
  clear io ik ib q2 hn3
  go_wp2_with fail
  have fin : ∀ W9, Kp (fun q => q = w.heap.size + 1) W1 W9 → W9.ownsRow base 43 3 (.slice A3 n3 c3) n3 ((flatP (leafP k v l)).flatMap cells3) ∧ Kp (fun q => (Value.slice A1 n1 c1).ownBlock = some q) w W9 ∧ (∀ q, (Value.slice A3 n3 c3).ownBlock = some q → (Value.slice A1 n1 c1).ownBlock = some q ∨ w.heap.size ≤ q) := fun W9 h9 => by
    have hs0 := HSZ.out
    refine ⟨h9.own IO.out.2 (fun q hq h => ?_), ((Kp.of_below HB0.out (fun q => (Value.slice A1 n1 c1).ownBlock = some q)).trans IK.out (fun q h => .inl h)).trans h9 (fun q h => .inr (by omega)), fun q hq => ?_⟩
    · rcases IB.out q hq with h1 | h1
      · have := HKO.out q h1; omega
      · omega
    · rcases IB.out q hq with h1 | h1
      · exact .inl h1
      · exact .inr (by omega)
  refine bodyPost_ret (v := cagg o a b (.slice A3 n3 c3) (.slice A2 n2 c2)) (by simp [results, Tryz.results112, go_sem, z0, z1, z2, z3, z4]) rfl ⟨A3, c3, n3, rfl, IO.out.1, fin _ ?_⟩
  repeat first
    | with_reducible exact Kp.refl _ _
    | with_reducible refine Kp.setCell ?_ (by simp) _
/-- put's function for a leaf. -/
theorem chgS_put2 {b most : Nat} {F : Nat → Prop} {M1 : Cells} (x : Wv) (zw zk zv : Nat) (c : Hc) (l : List Pr) (k v : Ky) (w : World) (hw : WC w zw x) (hk : C3 w zk 43 (.int .u8 k.1) (.int .i64 k.2.1) (.string k.2.2)) (hv : C3 w zv 43 (.int .u8 v.1) (.int .i64 v.2.1) (.string v.2.2))
    (nF : ∀ z, z = zw ∨ z = zk ∨ z = zv → ¬ F z) (hc : c.vals = flatP l) (hat : x.at' = 2 * lowN k l) (hhas : x.has = hasN k l) (hl : l.length ≤ 4096) :
    ChgS 112 #[.pointer (some ⟨zw, 0, none⟩), .pointer (some ⟨zk, 0, none⟩), .pointer (some ⟨zv, 0, none⟩)] b most F w M1 c (fun c' M2 => c' = { c with vals := flatP (leafP k v l) } ∧ M2 = M1) := by
  refine chgS_vals _ (fun o A1 A2 c1 c2 W F1 hRn own => ?_)
  rw [hc] at own ⊢
  exact vput2 x zw zk zv o c.a c.b l k v w.heap.size A1 A2 _ c1 _ c2 W (hw.kp hRn.kp (nF _ (.inl rfl))) (hk.kp hRn.kp (nF _ (.inr (.inl rfl)))) (hv.kp hRn.kp (nF _ (.inr (.inr rfl)))) hat hhas hl rfl own hRn.kp.size
set_option maxHeartbeats 1600000 in
theorem vtake1 (x : Wv) (zw : Nat) (o a b : Int) (vs : List V3) (base : Nat) (A1 A2 : Option Addr) (n1 c1 n2 c2 : Nat) (w : World) (hw : WC w zw x) (hat : x.at' + 2 ≤ n1) (hl : n1 ≤ 100000) (hn1 : n1 = vs.length) (own : w.ownsRow base 43 3 (.slice A1 n1 c1) n1 (vs.flatMap cells3)) :
    Calls Tryz.prog 118 (#[cagg o a b (.slice A1 n1 c1) (.slice A2 n2 c2)] ++ #[.pointer (some ⟨zw, 0, none⟩)]) w fun e w' => ∃ A3 c3 n3, e = .returned (cagg o a b (.slice A3 n3 c3) (.slice A2 n2 c2)) ∧ n3 = (vs.take x.at' ++ vs.drop (x.at' + 2)).length ∧
      w'.ownsRow base 43 3 (.slice A3 n3 c3) n3 ((vs.take x.at' ++ vs.drop (x.at' + 2)).flatMap cells3) ∧ Kp (fun q => (Value.slice A1 n1 c1).ownBlock = some q) w w' ∧ (∀ q, (Value.slice A3 n3 c3).ownBlock = some q → (Value.slice A1 n1 c1).ownBlock = some q ∨ w.heap.size ≤ q) := by
  obtain ⟨g, rfl⟩ : ∃ g, A1 = some ⟨g, 0, none⟩ := by
    rcases own.2 with ⟨_, e⟩ | ⟨g, cap, cur, e, _⟩
    · omega
    · simp only [Value.slice.injEq] at e
      exact ⟨g, e.1⟩
  obtain ⟨W0, hW0⟩ : ∃ W0, W0 = (w.alloc (.cells #[.int .u32 o, .int .u32 a, .int .u32 b, .slice (some ⟨g, 0, none⟩) n1 c1, .slice A2 n2 c2] 170)).alloc (.cells #[.int .u32 0, .int .u32 0, .int .u32 0, .slice none 0 0, .slice none 0 0] 170) := ⟨_, rfl⟩
  have hsz : W0.heap.size = w.heap.size + 1 + 1 := by rw [hW0]; simp
  have hb0 : Below w.heap.size w W0 := by rw [hW0]; exact ((Below.refl _ w).alloc (Nat.le_refl _) _).alloc (by simp) _
  have q1 : C5 W0 w.heap.size 170 (.int .u32 o) (.int .u32 a) (.int .u32 b) (.slice (some ⟨g, 0, none⟩) n1 c1) (.slice A2 n2 c2) := by
    rw [hW0]; exact (C5.new w 170 (.int .u32 o) (.int .u32 a) (.int .u32 b) (.slice (some ⟨g, 0, none⟩) n1 c1) (.slice A2 n2 c2)).alloc _
  have q2 : C5 W0 (w.heap.size + 1) 170 (.int .u32 0) (.int .u32 0) (.int .u32 0) (.slice none 0 0) (.slice none 0 0) := by
    have := C5.new (w.alloc (.cells #[.int .u32 o, .int .u32 a, .int .u32 b, .slice (some ⟨g, 0, none⟩) n1 c1, .slice A2 n2 c2] 170)) 170 (.int .u32 0) (.int .u32 0) (.int .u32 0) (.slice none 0 0) (.slice none 0 0)
    rw [hW0]
    simpa using this
  have own0 := (Kp.of_below hb0 (fun _ => False)).own own (fun _ _ h => h)
  have hgw : g < w.heap.size := (own_blk own g rfl).2
  have HP := Lib.hid (vdeleteV base g n1 c1 x.at' (vs.flatMap cells3) W0 own0 hat (flat_one _))
  have hlen : (vs.take x.at' ++ vs.drop (x.at' + 2)).length = n1 - 2 := by rw [List.length_append, List.length_take, List.length_drop]; omega
  have HLEN := Lib.hid hlen
  have HB0 := Lib.hid hb0
  have HSZ := Lib.hid hsz
  obtain ⟨m0, m1, m2, m3, m4, m5, m6, m7, m8, m9⟩ := (hw.below hb0).all
  obtain ⟨x0, x1, x2, x3, x4, y0, y1, y2, y3, y4⟩ := q1.all
  have Q12 := Lib.hid (And.intro q1 q2)
  have HW0 := Lib.hid hW0
  have hi3 : IntKind.i64.wrap ((x.at' : Int) + 2) = (x.at' : Int) + 2 := by rw [IntKind.wrap_i64]; omega
  clear hat own own0 hb0 hsz hw q1 q2 hW0 hn1 hl hlen
  go_enter Tryz.func118, Tryz.ntmps118
  go_upto_region 1 with fail
  rw [← HW0.out]
  clear HW0
  go_wp2_with fail
  refine HP.out.mono ?_
  rintro e W1 ⟨rfl, io, ik⟩
  have hg1 : ¬ (w.heap.size = g) := by omega
  have hg2 : ¬ (w.heap.size + 1 = g) := by omega
  obtain ⟨x0, x1, x2, x3, x4, y0, y1, y2, y3, y4⟩ := (Q12.out.1.kp ik hg1).all
  obtain ⟨z0, z1, z2, z3, z4, u0, u1, u2, u3, u4⟩ := (Q12.out.2.kp ik hg2).all
  have IO := Lib.hid io
  have IK := Lib.hid ik
  clear io ik
  go_wp2_with fail
  refine bodyPost_ret (v := cagg o a b (.slice (some ⟨g, 0, none⟩) (n1 - 2) c1) (.slice A2 n2 c2)) (by simp [results, Tryz.results118, go_sem, z0, z1, z2, z3, z4]) rfl ⟨_, c1, n1 - 2, rfl, HLEN.out.symm, ?_, ?_, fun q hq => .inl hq⟩
  · have io := IO.out
    rw [flat3_del] at io
    have h9 : ∀ W9, Kp (fun q => q = w.heap.size ∨ q = w.heap.size + 1) W1 W9 → W9.ownsRow base 43 3 (.slice (some ⟨g, 0, none⟩) (n1 - 2) c1) (n1 - 2) ((vs.take x.at' ++ vs.drop (x.at' + 2)).flatMap cells3) := fun W9 h9 => h9.own io (fun q hq h => by
      cases hq
      rcases h with h | h
      · exact hg1 h.symm
      · exact hg2 h.symm)
    refine h9 _ ?_
    repeat first
      | with_reducible exact Kp.refl _ _
      | with_reducible refine Kp.setCell ?_ (by simp) _
  · have h9 : ∀ W9, Kp (fun q => q = w.heap.size ∨ q = w.heap.size + 1) W1 W9 → Kp (fun q => (Value.slice (some ⟨g, 0, none⟩) n1 c1).ownBlock = some q) w W9 := fun W9 h9 => by
      refine ((Kp.of_below HB0.out (fun q => (Value.slice (some ⟨g, 0, none⟩) n1 c1).ownBlock = some q)).trans IK.out (fun q h => .inl (by rw [h]; rfl))).trans h9 (fun q h => .inr (by omega))
    refine h9 _ ?_
    repeat first
      | with_reducible exact Kp.refl _ _
      | with_reducible refine Kp.setCell ?_ (by simp) _
/-- take's function for a leaf. -/
theorem chgS_take1 {b most : Nat} {F : Nat → Prop} {M1 : Cells} (x : Wv) (zw : Nat) (c : Hc) (l : List Pr) (k : Ky) (w : World) (hw : WC w zw x) (nF : ¬ F zw) (hc : c.vals = flatP l) (hat : x.at' = 2 * lowN k l) (hlt : lowN k l < l.length) (hl : l.length ≤ 4096) :
    ChgS 118 #[.pointer (some ⟨zw, 0, none⟩)] b most F w M1 c (fun c' M2 => c' = { c with vals := flatP (l.eraseIdx (lowN k l)) } ∧ M2 = M1) := by
  refine chgS_vals _ (fun o A1 A2 c1 c2 W F1 hRn own => ?_)
  rw [hc] at own ⊢
  rw [flatP_erase hlt, ← hat]
  exact vtake1 x zw o c.a c.b (flatP l) w.heap.size A1 A2 _ c1 _ c2 W (hw.kp hRn.kp nF) (by rw [flatP_length]; omega) (by rw [flatP_length]; omega) rfl own
end

end Go.Proofs.YtacoingheieceaaGreat

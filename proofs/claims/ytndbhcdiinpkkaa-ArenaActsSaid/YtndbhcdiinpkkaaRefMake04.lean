/- The document's arena: Make. -/
import Derived.Test.YtndbhcdiinpkkaaRef04
namespace Go.Proofs.Ytndbhcdiinpkkaa
open Go.RowKit

theorem Rd.four (w : World) (x0 x1 x2 x3 : Value) (t : TypeId) (b : Nat) (hb : b = w.heap.size) : Rd (w.alloc (.cells #[x0, x1, x2, x3] t)) (.slice (some ⟨b, 0, none⟩) 1 1) 1 [x0, x1, x2, x3] := by
  subst hb
  refine .inr ⟨_, 0, 1, rfl, Nat.le_refl _, fun j u hu => ?_⟩
  match j, hu with
  | 0, hu => simp at hu; subst hu; simp [go_sem]
  | 1, hu => simp at hu; subst hu; simp [go_sem]
  | 2, hu => simp at hu; subst hu; simp [go_sem]
  | 3, hu => simp at hu; subst hu; simp [go_sem]

def DocMade (B rb nd most : Nat) (vC : Value) (D : Nat → Dc) (K : Nat → Value) (d : Dc) (w : World) (e : Ending) (w' : World) : Prop :=
  ∃ vC' kv', e = .returned (.int .i64 nd) ∧ Doc w' B rb (nd + 1) most vC' (upd D nd d) (upd K nd kv') ∧ Kp (fun g => g = rb ∨ vC.ownBlock = some g) w w' ∧ (∀ g, vC'.ownBlock = some g → vC.ownBlock = some g ∨ w.heap.size ≤ g) ∧ (∀ g, kv'.ownBlock = some g → w.heap.size ≤ g)

section
variable {B rb nd most : Nat} {vC : Value} {D : Nat → Dc} {K : Nat → Value}
theorem Doc.made {w w1 w2 : World} {v1 v2 : Value} {x y : Nat} {ow wo : Int} {o : Obj} (h : Doc w B rb nd most vC D K) (hn : nd < 1000) (hB : B ≤ w.heap.size) (o1 : w1.ownsRow w.heap.size 3 1 v1 2 (nums [(x : Int), (y : Int)])) (k1 : Below w.heap.size w w1)
    (o2 : w2.ownsRow B 96 4 v2 (nd + 1) (drow nd D K ++ [v1, .int .i64 1, .int .u32 ow, .int .u32 wo])) (g2 : (w1.alloc o).grownBy w2 vC.ownBlock) (hat : v2.ownBlock = vC.ownBlock ∨ v2.ownBlock = some (w1.heap.size + 1)) :
    Doc (w2.setCell ⟨rb, 0, none⟩ v2) B rb (nd + 1) most v2 (upd D nd ⟨x, y, 1, ow, wo⟩) (upd K nd v1) ∧ Kp (fun g => g = rb ∨ vC.ownBlock = some g) w (w2.setCell ⟨rb, 0, none⟩ v2) ∧ (∀ g, v2.ownBlock = some g → vC.ownBlock = some g ∨ w.heap.size ≤ g) ∧ (∀ g, v1.ownBlock = some g → w.heap.size ≤ g) := by
  have hne : ∀ g, vC.ownBlock = some g → g ≠ rb := own_ne h.cr h.rd (by decide)
  have ka : Kp (fun g => vC.ownBlock = some g) w w2 := ((Kp.of_below k1 (fun g => vC.ownBlock = some g)).alloc o).trans (Kp.of_grown (F := fun g => vC.ownBlock = some g) g2 (fun _ e => .inl e)) (fun _ => .inl)
  have kb : Kp (fun g => g = rb ∨ vC.ownBlock = some g) w (w2.setCell ⟨rb, 0, none⟩ v2) := (ka.mono (G := fun g => g = rb ∨ vC.ownBlock = some g) (fun _ e _ => .inr e)).setCell (.inl (.inl rfl)) _
  have r2 : C2 w2 rb 90 vC (.int .i64 most) := h.rd.kp ka (fun e => hne rb e rfl)
  have kc : Kp (fun g => vC.ownBlock = some g) w1 w2 := ((Kp.refl (fun g => vC.ownBlock = some g) w1).alloc o).trans (Kp.of_grown (F := fun g => vC.ownBlock = some g) g2 (fun _ e => .inl e)) (fun _ => .inl)
  have o1' : w2.ownsRow w.heap.size 3 1 v1 2 (nums [(x : Int), (y : Int)]) := kc.own o1 (fun g hg e => by have := (o1.lt g hg).1; have := (h.cr.lt g e).2; omega)
  refine ⟨⟨r2.set0 v2, ?_, by omega, by omega, fun k k1' k2' => ?_, by rw [upd_other _ _ (by have := h.n1; omega)]; exact h.k0⟩, kb, fun g hg => ?_, fun g hg => (o1.lt g hg).1⟩
  · rw [drow_snoc]
    exact (Kp.one w2 rb 0 v2).own o2 (own_ne o2 r2 (by decide))
  · by_cases e : k = nd
    · subst e
      rw [upd_same, upd_same]
      exact own_less ((Kp.one w2 rb 0 v2).own o1' (own_ne o1' r2 (by decide))) hB
    · rw [upd_other _ _ e, upd_other _ _ e]
      have hk := h.kr k k1' (by omega)
      refine kb.own hk fun g hg e' => ?_
      rcases e' with rfl | e'
      · exact own_ne hk h.rd (by decide) _ hg rfl
      · obtain ⟨cur, hc⟩ := own_type h.cr g e'
        exact own_ne hk hc (by decide) g hg rfl
  · rcases hat with e | e
    · exact .inl (e ▸ hg)
    · rw [e] at hg; injection hg with hg; have := k1.size; exact .inr (by omega)

theorem ref_full (ow wo : Int) (kv : Value) (w : World) (h : Doc w B rb nd most vC D K) (hr : ∀ k, (D k).refs ≤ 1000) (hl : most ≤ dlive nd D) :
    Calls Try.prog 39 #[rp rb, .int .u32 ow, .int .u32 wo, kv] w fun e w' => e = .returned (.int .i64 0) ∧ ∃ k, w' = w.drewN k := by
  have c1 := h.rd.c1
  have hle := dlive_le nd D
  have n2 := h.n2
  have hl' : (most : Int) ≤ (dlive nd D : Nat) := by omega
  go_enter Try.func39, Try.ntmps39
  go_wp2_with fail
  go_quiet ((go_at_call 44; exact quiet_same (ref_live _ (h.below (below_drewN _ _)) hr)))
  go_wp2_with fail
  go_ret
  exact ⟨rfl, _, rfl⟩

set_option maxRecDepth 100000 in
set_option maxHeartbeats 1600000 in
theorem ref_make (x y : Nat) (ow wo : Int) (kv : Value) (w : World) (h : Doc w B rb nd most vC D K) (hr : ∀ k, (D k).refs ≤ 1000) (hl : dlive nd D < most) (hn : nd < 1000) (hm : most ≤ 1000) (hkv : Rd w kv 2 (nums [(x : Int), (y : Int)])) (hB : B ≤ w.heap.size) :
    Calls Try.prog 39 #[rp rb, .int .u32 ow, .int .u32 wo, kv] w (DocMade B rb nd most vC D K ⟨x, y, 1, ow, wo⟩ w) := by
  have c1 := h.rd.c1
  have c0 := h.rd.c0
  have f0 := h.rd.fz 0
  have hl' : ¬ (most : Int) ≤ (dlive nd D : Nat) := by omega
  obtain ⟨Ak, ck, rfl, _⟩ := hkv.form
  obtain ⟨Ac, cc, rfl, _⟩ := (Rd.of_own h.cr).form
  obtain ⟨i0, hi, hz0, hz1, hz2⟩ := info_parts dinfo
  obtain ⟨i1, hi1, hy0, hy1, hy2⟩ := info_parts iinfo
  have HK := Lib.hid hkv
  have HH := Lib.hid h
  have hrl := h.rd.lt
  have HR := Lib.hid hr
  clear hkv h hr
  go_enter Try.func39, Try.ntmps39
  go_wp2_with fail
  go_quiet ((go_at_call 44; exact quiet_same (ref_live _ (HH.out.below (below_drewN _ _)) HR.out)))
  go_wp2_with fail
  have q1 : ∀ (A1 : Option Addr) (m1 : Nat), ∀ u ∈ [Value.slice A1 2 m1, .int .i64 1, .int .u32 ow, .int .u32 wo], u.oneCell' = true := by
    intro A1 m1 u hu
    simp at hu
    rcases hu with rfl | rfl | rfl | rfl <;> rfl
  have q2 : nd + 1 ≤ maxLen := by unfold maxLen; omega
  have l0 : ((w.drewN (nq + 1)).alloc (.cells #[] 3)).cell? ⟨rb, 0, none⟩ = some (.slice Ac nd cc) := ((HH.out.rd.below (below_drewN w (nq + 1))).alloc _).c0
  have q3 : (nd + 1) * 40 ≤ 140737488355328 := by omega
  have HNE := Lib.hid (show ∀ b, b = rb → some b ≠ (Value.slice Ac nd cc).ownBlock from fun b e e' => own_ne HH.out.cr HH.out.rd (by decide) b e'.symm e)
  have HB0 := Lib.hid (show ∀ w1, (((w.drewN nq).drew.alloc (.cells #[] 3)).grownBy w1 (some w.heap.size)) → Below w.heap.size w w1 from fun w1 hg => ⟨hg.os, hg.tape, hg.output, Nat.le_trans (by simp) hg.size, fun k hk => (hg.block k (by simp; omega) (by simp; omega)).trans (Below.heap_alloc (w.drewN nq).drew _ k hk)⟩)
  go_region_law (first
    | (refine step_append_rd rfl _ _ 32 rfl w.heap.size 3 i1 _ 1 8 Try.underlying32 hi1 hy0 hy1 hy2 rfl (by decide) _ 0 [] rfl (World.ownsRow_lit _ #[] 0 (by simp) (by decide) (by decide)) _ 2 (nums [(x : Int), (y : Int)]) rfl ((HK.out.below (below_drewN _ _)).drew.alloc _) rfl (nums_one _) (by decide) (by decide) (by simp) ?_; intro v1 w1 hown1 hg1 hat1; obtain ⟨A1, m1, rfl, _⟩ := (Rd.of_own hown1).form; have hb1 := HB0.out w1 hg1; have d0 := (HH.out.rd.below hb1).c0; have e0 := (HH.out.rd.below hb1).fz 0; have hrl1 := (HH.out.rd.below hb1).lt; have B1 := Lib.hid hb1; have O1 := Lib.hid (show w1.ownsRow w.heap.size 3 1 (.slice A1 2 m1) 2 (nums [(x : Int), (y : Int)]) from hown1); clear hown1 hg1 hat1 hb1)
    | (refine step_append_rd rfl _ _ 88 rfl B 96 i0 _ 4 40 Try.underlying88 hi hz0 hz1 hz2 rfl (by decide) (.slice Ac nd cc) nd (drow nd D K) rfl ((HH.out.below B1.out).cr.alloc _) _ 1 [.slice A1 2 m1, .int .i64 1, .int .u32 ow, .int .u32 wo] rfl (Rd.four _ _ _ _ _ _ _ rfl) rfl (q1 _ _) q2 q3 (Nat.le_trans hB (Nat.le_trans B1.out.size (by simp))) ?_; intro v2 w2 hown2 hg2 hat2; obtain ⟨A2, m2, rfl, _⟩ := (Rd.of_own hown2).form; have r2 := ((HH.out.rd.below B1.out).alloc (.cells #[.slice A1 2 m1, .int .i64 1, .int .u32 ow, .int .u32 wo] 96)).grown hg2 (HNE.out rb rfl); have y0 := r2.c0; have z0 := r2.fz 0; have R2 := Lib.hid r2; have O2 := Lib.hid hown2; have G2 := Lib.hid hg2; have AT := Lib.hid hat2; clear r2 hown2 hg2 hat2))
  all_goals
    obtain ⟨h1, h2, h3, h4⟩ := HH.out.made hn hB O1.out B1.out O2.out G2.out (by simpa using AT.out)
    have r3 := R2.out.set0 (.slice A2 (nd + 1) m2)
    have x0 := r3.c0
    have H1 := Lib.hid h1
    have H2 := Lib.hid h2
    have H3 := Lib.hid h3
    have H4 := Lib.hid h4
    clear h1 h2 h3 h4 r3 y0 z0 c0 f0 c1
    go_wp2_with fail
    go_ret
    exact ⟨_, _, ret_int (by omega), H1.out, H2.out, H3.out, H4.out⟩
end

end Go.Proofs.Ytndbhcdiinpkkaa

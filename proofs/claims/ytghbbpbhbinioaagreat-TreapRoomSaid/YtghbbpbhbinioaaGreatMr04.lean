/- Several texts in one. -/
import Derived.Test.YtghbbpbhbinioaaGreatMr03
import Derived.Deep.LoopGhost
namespace Go.Proofs.YtghbbpbhbinioaaGreat
set_option maxRecDepth 100000
open Go.RowKit

theorem below_drewN (w : World) (k : Nat) : Below w.heap.size w (w.drewN k) := ⟨rfl, rfl, rfl, Nat.le_refl _, fun _ _ => rfl⟩

theorem add64 (a : Addr) (x y : Int) (w : World) (hc : w.cell? a = some (.int .i64 x)) (hz : w.frozen? a = false) (h1 : -9223372036854775808 ≤ x + y) (h2 : x + y ≤ 9223372036854775807) :
    Calls Tryz.prog 76 #[.pointer (some a), .int .i64 y] w fun e w' => e = .returned (.int .i64 (x + y)) ∧ w' = w.setCell a (.int .i64 (x + y)) := by
  have hs : (Op.intArith .add .i64 x y).run Tryz.prog w = .ok (.int .i64 (x + y)) w := by
    have e := IntWalk.i64_in (x + y) ⟨h1, h2⟩
    simp [Op.intArith, e]
  have hl := run_call_add (P := Tryz.prog) Tryz.func126 (by kernel_rfl) (by kernel_rfl) (by kernel_rfl) .i64 (by kernel_rfl) hc hz hs
  clear hs
  go_enter Tryz.func76, Tryz.ntmps76
  go_wp2
  go_ret
  exact ⟨rfl, rfl⟩

def Made (c : Hc) (b most : Nat) (M : Cells) (F : Nat → Prop) (w : World) (e : Ending) (w' : World) : Prop :=
  ∃ i : Nat, e = .returned (.tuple #[.int .i64 i, .int .i64 0]) ∧ 1 ≤ i ∧ i ≤ most ∧ M i = none ∧ Ar w' b most (upd M i (some (c, 1))) (Fn F w w') ∧ Kp F w w'

section
variable {w w1 w2 : World} {b most : Nat} {M : Cells} {F F1 : Nat → Prop} {n gc cc j : Nat} {vf : Value} {fr : List Nat} {H : Nat → Nat}
theorem places_put {y : Hc × Nat} {g : Nat} : places (upd M (j + 1) (some y)) (upd H (j + 1) g) n = (places M H n).set j (.pointer (some ⟨g, 0, none⟩)) := by
  apply List.ext_getElem?
  intro k
  by_cases hk : k < n
  · rw [places_at hk, List.getElem?_set]
    by_cases e : j = k
    · subst e; rw [upd_same, upd_same, if_pos rfl, if_pos (by rw [places_length]; exact hk)]; rfl
    · rw [if_neg e, places_at hk, upd_other _ _ (by omega), upd_other _ _ (by omega)]
  · rw [List.getElem?_eq_none (by rw [places_length]; omega), List.getElem?_eq_none (by rw [List.length_set, places_length]; omega)]

theorem ArD.made (h : ArD 1 w1 b most M F1 n (.slice (some ⟨gc, 0, none⟩) n cc) vf fr H) (hF1 : ∀ k, F1 k → F k ∨ w.heap.size ≤ k) (hF0 : ∀ k, F k → F1 k) (k1 : Kp F w w1) (hj : j < n) (hM : M (j + 1) = none) (hfr : j + 1 ∉ fr) (hB : Below w1.heap.size w1 w2)
    (c : Hc) (v k : Value) (o1 : w2.ownsRow w1.heap.size 36 3 v c.vals.length (c.vals.flatMap cells3)) (o2 : w2.ownsRow w1.heap.size 3 1 k c.kids.length (nums (ns c.kids))) (nv : c.vals.length ≤ 4194304) (nk : c.kids.length ≤ 4194304) :
    ∀ w4, w4 = (((w2.setCell ⟨gc, j, none⟩ (.pointer (some ⟨w2.heap.size, 0, none⟩))).alloc (.cells #[.int .u32 c.owner, .int .u32 c.a, .int .u32 c.b, v, k, .int .i64 1] 154)).setCell ⟨b, 1, none⟩ (.int .i64 ((live (most + 1) M : Nat) + 1))) →
    Ar w4 b most (upd M (j + 1) (some (c, 1))) (Fn F w w4) ∧ Kp F w w4 := by
  rintro w4 rfl
  obtain ⟨curc, hgc⟩ := own_type h.cs gc rfl
  have hbg : b ≠ gc := ne_types h.row hgc (by decide)
  have hs1 := k1.size
  have hs2 := hB.size
  have hgl : gc < w1.heap.size := (Array.getElem?_eq_some_iff.1 hgc).1
  have hbl := h.row.lt
  have ka : Kp (fun x => x = gc) w2 ((w2.setCell ⟨gc, j, none⟩ (.pointer (some ⟨w2.heap.size, 0, none⟩))).alloc (.cells #[.int .u32 c.owner, .int .u32 c.a, .int .u32 c.b, v, k, .int .i64 1] 154)) := (Kp.one w2 gc j _).alloc _
  have kb : Kp (fun x => x = gc ∨ x = b) w2 (((w2.setCell ⟨gc, j, none⟩ (.pointer (some ⟨w2.heap.size, 0, none⟩))).alloc (.cells #[.int .u32 c.owner, .int .u32 c.a, .int .u32 c.b, v, k, .int .i64 1] 154)).setCell ⟨b, 1, none⟩ (.int .i64 ((live (most + 1) M : Nat) + 1))) :=
    (ka.mono (G := fun x => x = gc ∨ x = b) (fun _ e _ => .inl e)).setCell (.inl (.inr rfl)) _
  have kt := (Kp.of_below hB (fun x => x = gc ∨ x = b)).trans kb (fun _ => .inl)
  have hG : ∀ x, (x = gc ∨ x = b) → ∃ cur t z, w1.heap[x]? = some (.cells cur t z) ∧ t ≠ 154 ∧ t ≠ 36 ∧ t ≠ 3 := by
    rintro x (rfl | rfl)
    · exact ⟨_, _, _, hgc, by decide, by decide, by decide⟩
    · exact ⟨_, _, _, h.row, by decide, by decide, by decide⟩
  have kF : Kp F w (((w2.setCell ⟨gc, j, none⟩ (.pointer (some ⟨w2.heap.size, 0, none⟩))).alloc (.cells #[.int .u32 c.owner, .int .u32 c.a, .int .u32 c.b, v, k, .int .i64 1] 154)).setCell ⟨b, 1, none⟩ (.int .i64 ((live (most + 1) M : Nat) + 1))) :=
    k1.trans kt (fun x e => by
      rcases e with rfl | rfl
      · exact hF1 _ (h.fc _ rfl)
      · exact hF1 _ h.fb)
  have hsz : (((w2.setCell ⟨gc, j, none⟩ (.pointer (some ⟨w2.heap.size, 0, none⟩))).alloc (.cells #[.int .u32 c.owner, .int .u32 c.a, .int .u32 c.b, v, k, .int .i64 1] 154)).setCell ⟨b, 1, none⟩ (.int .i64 ((live (most + 1) M : Nat) + 1))).heap.size = w2.heap.size + 1 := by simp
  have hN : j + 1 < most + 1 := by have := h.le; omega
  have hlive : live (most + 1) (upd M (j + 1) (some (c, 1))) = live (most + 1) M + 1 := by
    have := live_upd (M := M) (j + 1) (some (c, 1)) hN
    rw [hM] at this
    simpa [one] using this
  have hlen := h.len
  have hFn : ∀ x, F1 x → Fn F w _ x := fun x hx => by
    rcases hF1 x hx with e | e
    · exact .inl e
    · exact .inr ⟨e, by have := h.lt x hx; rw [hsz]; omega⟩
  have r2 := h.row.below hB
  have hcs2 : w2.ownsRow 0 118 1 (.slice (some ⟨gc, 0, none⟩) n cc) n (places M H n) := (Kp.of_below hB (fun _ => False)).own h.cs (fun _ _ => id)
  have new : ∀ x, w1.heap.size ≤ x → x < w2.heap.size + 1 → Fn F w (((w2.setCell ⟨gc, j, none⟩ (.pointer (some ⟨w2.heap.size, 0, none⟩))).alloc (.cells #[.int .u32 c.owner, .int .u32 c.a, .int .u32 c.b, v, k, .int .i64 1] 154)).setCell ⟨b, 1, none⟩ (.int .i64 ((live (most + 1) M : Nat) + 1))) x :=
    fun x hx hx' => .inr ⟨by omega, by rw [hsz]; exact hx'⟩
  refine ⟨⟨n, _, vf, fr, upd H (j + 1) w2.heap.size, h.m1, h.m2, ?_, ?_, ?_, ?_, ?_, h.nd, ?_, ?_, h.le, hFn _ h.fb, fun x hx => hFn _ (h.fc x hx), fun x hx => hFn _ (h.ff x hx), ?_⟩, kF⟩
  · rw [hlive]; exact ((r2.other hbg _).alloc _).set1 _
  · rw [places_put]
    have st := (hcs2.stored j (.pointer (some ⟨w2.heap.size, 0, none⟩))).1.alloc (.cells #[.int .u32 c.owner, .int .u32 c.a, .int .u32 c.b, v, k, .int .i64 1] 154)
    exact (Kp.one _ b 1 _).own st (fun x hx e => by cases hx; exact hbg e.symm)
  · refine kt.own h.fs fun x hx e => ?_
    obtain ⟨cur, t, z, hg, _, _, t3⟩ := hG _ e
    exact own_ne h.fs hg (Ne.symm t3) x hx rfl
  · intro j' c' r' hj'
    by_cases e : j' = j + 1
    · subst e
      rw [upd_same] at hj'
      injection hj' with hj'
      injection hj' with e1 e2
      subst e1 e2
      refine ⟨by omega, by omega, Nat.le_refl _, ?_⟩
      rw [upd_same]
      refine ⟨v, k, ?_, own_less (kb.own o1 ?_) (Nat.zero_le _), own_less (kb.own o2 ?_) (Nat.zero_le _), new _ (by omega) (by omega), fun g hg => new _ (o1.lt g hg).1 (by have := (o1.lt g hg).2; omega), fun g hg => ⟨new _ (o2.lt g hg).1 (by have := (o2.lt g hg).2; omega), fun e => ?_⟩, nv, nk⟩
      · have := C6.new (w2.setCell ⟨gc, j, none⟩ (.pointer (some ⟨w2.heap.size, 0, none⟩))) 154 (.int .u32 c.owner) (.int .u32 c.a) (.int .u32 c.b) v k (.int .i64 1)
        have hw : (w2.setCell ⟨gc, j, none⟩ (.pointer (some ⟨w2.heap.size, 0, none⟩))).heap.size = w2.heap.size := by simp
        rw [hw] at this
        exact this.other (by omega) _
      · intro x hx e; have := (o1.lt x hx).1; omega
      · intro x hx e; have := (o2.lt x hx).1; omega
      · have := (h.fs.lt g e).2; have := (o2.lt g hg).1; omega
    · rw [upd_other _ _ e] at hj'
      obtain ⟨j1, j2, j3, j4⟩ := h.cel j' c' r' hj'
      rw [upd_other _ _ e]
      exact ⟨j1, j2, j3, (j4.keepT kt hG).mono hFn⟩
  · have hlt : ∀ x, M x ≠ none → H x < w1.heap.size := fun x hx => by
      cases e : M x with
      | none => exact absurd e hx
      | some y => obtain ⟨cur, h6⟩ := (h.cel x y.1 y.2 e).2.2.2.six; exact (Array.getElem?_eq_some_iff.1 h6).1
    intro x y hx hy e
    by_cases ex : x = j + 1
    · by_cases ey : y = j + 1
      · omega
      · subst ex
        rw [upd_other _ _ ey] at hy e
        rw [upd_same] at e
        have := hlt y hy
        omega
    · by_cases ey : y = j + 1
      · subst ey
        rw [upd_other _ _ ex] at hx e
        rw [upd_same] at e
        have := hlt x hx
        omega
      · rw [upd_other _ _ ex] at hx e
        rw [upd_other _ _ ey] at hy e
        exact h.inj x y hx hy e
  · intro x hx
    obtain ⟨x1, x2, x3⟩ := h.fi x hx
    exact ⟨x1, x2, by rw [upd_other _ _ (by rintro rfl; exact hfr hx)]; exact x3⟩
  · rw [hlive]; omega
  · intro x hx
    rcases hx with hx | hx
    · have := h.lt x (hF0 x hx); rw [hsz]; omega
    · exact hx.2
end

set_option maxRecDepth 100000 in
set_option maxHeartbeats 4000000 in
theorem amake (c : Hc) (v k : Value) (b most : Nat) (M : Cells) (F : Nat → Prop) (w : World) (h : Ar w b most M F) (hv : Rd w v c.vals.length (c.vals.flatMap cells3)) (hk : Rd w k c.kids.length (nums (ns c.kids)))
    (nv : c.vals.length ≤ 4194304) (nk : c.kids.length ≤ 4194304) (fv : ∀ g, v.ownBlock = some g → ¬ F g) (fk : ∀ g, k.ownBlock = some g → ¬ F g) (hg : (ns c.kids).all (goodB M) = true) (hlt : live (most + 1) M < most) :
    Calls Tryz.prog 41 #[ap b, cagg c.owner c.a c.b v k] w (Made c b most M F w) := by
  obtain ⟨A, cv, rfl, _⟩ := hv.form
  obtain ⟨A', ck, rfl, _⟩ := hk.form
  have hm2 : most ≤ 1048576 := by obtain ⟨_, _, _, _, _, h⟩ := h; exact h.m2
  have hr : ¬ ((most : Int) - (live (most + 1) M : Nat) = 0) := by omega
  have HH := Lib.hid h
  have HV := Lib.hid hv
  have HK := Lib.hid hk
  clear hv hk h
  go_enter Tryz.func41, Tryz.ntmps41
  go_wp2_with fail
  obtain ⟨n, vc, vf, fr, H, hD⟩ := HH.out.alloc (.cells #[.int .u32 c.owner, .int .u32 c.a, .int .u32 c.b, .slice A c.vals.length cv, .slice A' c.kids.length ck] 94)
  refine (allHeld _ (ns c.kids) _ hD (by rw [ns_length]; exact HK.out.alloc _) (by rw [ns_length]; exact nk)).mono ?_
  rintro e w0 ⟨rfl, hw⟩
  rw [hg]
  have q0 : C5 w0 w.heap.size 94 (.int .u32 c.owner) (.int .u32 c.a) (.int .u32 c.b) (.slice A c.vals.length cv) (.slice A' c.kids.length ck) := hw ▸ C5.new w _ _ _ _ _ _
  have b0 : Below w.heap.size w w0 := hw ▸ (Below.refl _ w).alloc (Nat.le_refl _) _
  have s0 : w0.heap.size = w.heap.size + 1 := by rw [← hw]; simp
  rw [hw] at hD
  have Q0 := Lib.hid q0
  have B0 := Lib.hid b0
  have S0 := Lib.hid s0
  clear hw q0 b0 s0
  go_wp2_with fail
  refine (aroom b most M F _ ⟨n, vc, vf, fr, H, hD⟩).mono ?_
  rintro e w0' ⟨rfl, k', hw⟩
  have q0 : C5 w0' w.heap.size 94 (.int .u32 c.owner) (.int .u32 c.a) (.int .u32 c.b) (.slice A c.vals.length cv) (.slice A' c.kids.length ck) := hw ▸ Q0.out
  have b0' : Below w0.heap.size w0 w0' := hw ▸ below_drewN w0 k'
  have s0 : w0'.heap.size = w.heap.size + 1 := by rw [hw]; exact S0.out
  have hD0 := hD.kp (Kp.of_below b0' (fun _ => False)) (fun _ _ => id)
  have b0 : Below w.heap.size w w0' := B0.out.trans (b0'.mono (by rw [S0.out]; omega))
  clear hD hw b0' Q0 B0 S0
  go_wp2_with fail
  refine (unused _ hD0 hlt).mono ?_
  rintro e w1 ⟨i, n1, vc1, vf1, fr1, rfl, hD1, i1, i2, i3, i4, hK1⟩
  have hF1 : ∀ k, F k → k < w.heap.size := fun k hk => HH.out.lt hk
  have q1 := q0.kp hK1 (fun f => by have := hF1 _ f; omega)
  have k1 : Kp F w w1 := (Kp.of_below b0 F).trans hK1 (fun _ => .inl)
  have hv1 : Rd w1.drew _ _ _ := k1.rd HV.out fv
  have hk1 : Rd w1.drew (.slice A' c.kids.length ck) (ns c.kids).length (nums (ns c.kids)) := by rw [ns_length]; exact k1.rd HK.out fk
  obtain ⟨j, rfl⟩ : ∃ j, i = j + 1 := ⟨i - 1, by omega⟩
  obtain ⟨gc, cc, rfl, _, hx, hfz⟩ := own_at hD1.cs (places_at (M := M) (H := H) (n := n1) (j := j) (by omega))
  rw [i3] at hx
  have c2 := hD1.row.c2
  obtain ⟨d0, d1, d2, d3, d4, _⟩ := q1.all
  go_wp2_with fail
  have nk' : (ns c.kids).length ≤ 4194304 := by rw [ns_length]; exact nk
  have hbl := World.block_lt_of_cell? w1 _ c2
  have hgl := World.block_lt_of_cell? w1 _ hx
  have HV1 := Lib.hid hv1
  have HK1 := Lib.hid hk1
  have HD1 := Lib.hid hD1
  have KP1 := Lib.hid k1
  have Q1 := Lib.hid q1
  clear hv1 hk1 hD1 k1 q0 q1 b0 hD0 hK1
  have hjn : n1 ≤ 1048576 := by have := HD1.out.le; omega
  have y1 : IntKind.i64.wrap ((j : Int) + 1 - 1) = (j : Int) := by rw [IntWalk.i64_in _ (by omega)]; omega
  have y5 : IntKind.i64.wrap (j : Int) = (j : Int) := IntWalk.i64_in _ (by omega)
  have y2 : (0 : Int) ≤ (j : Int) := by omega
  have y3 : (j : Int) < (n1 : Int) := by omega
  have y4 : j < n1 := by omega
  go_region_with (go_at_call 75; refine (apart c.owner c.a c.b _ _ c.vals (ns c.kids) _ HV1.out HK1.out nv nk').mono ?_; rintro e w2 ⟨v2, k2, rfl, ho1, ho2, hb2⟩; obtain ⟨X1, m1, rfl, _⟩ := (Rd.of_own ho1).form; obtain ⟨X2, m2, rfl, _⟩ := (Rd.of_own ho2).form; have c22 := (hb2.cell (p := ⟨b, 2, none⟩) hbl).trans c2; have hx2 := (hb2.cell (p := ⟨gc, j, none⟩) hgl).trans hx; have hfz2 := (hb2.frozen (p := ⟨gc, j, none⟩) hgl).trans hfz; have hg2 : gc < w2.heap.size := Nat.lt_of_lt_of_le hgl hb2.size; have hbb2 : b < w2.heap.size := Nat.lt_of_lt_of_le hbl hb2.size; have O1 := Lib.hid ho1; have O2 := Lib.hid ho2; have B2 := Lib.hid hb2; clear ho1 ho2 hb2)
  all_goals
    have hB : Below w1.heap.size w1 w2 := ⟨B2.out.os, B2.out.tape, B2.out.output, B2.out.size, B2.out.block⟩
    have hbg : b ≠ gc := by
      obtain ⟨cur, hgc⟩ := own_type HD1.out.cs gc rfl
      exact ne_types HD1.out.row hgc (by decide)
    have r3 := ((HD1.out.row.below hB).other hbg (o := j) (.pointer (some ⟨w2.heap.size, 0, none⟩))).alloc (.cells #[.int .u32 c.owner, .int .u32 c.a, .int .u32 c.b, .slice X1 c.vals.length m1, .slice X2 (ns c.kids).length m2, .int .i64 1] 154)
    have o2 : w2.ownsRow w1.heap.size 3 1 (.slice X2 (ns c.kids).length m2) c.kids.length (nums (ns c.kids)) := cast (by rw [ns_length]; rfl) O2.out
    have R3 := Lib.hid r3
    have OO := Lib.hid o2
    have BB := Lib.hid hB
    clear hB hbg r3 o2 c2 c22 hx hx2 hfz hfz2 d0 d1 d2 d3 d4 y1 y5
    go_wp2_with (go_at_call 76; refine (add64 ⟨b, 1, none⟩ _ 1 _ R3.out.c1 (R3.out.fz 1) (by omega) (by omega)).mono ?_; rintro e w4 ⟨rfl, hw4⟩; have HW := Lib.hid hw4; clear hw4)
    go_ret2
    have hF0 : ∀ x, F x → Fn F w0' w1 x := fun _ => .inl
    have hF1' : ∀ x, Fn F w0' w1 x → F x ∨ w.heap.size ≤ x := fun x hx => by
      rcases hx with hx | hx
      · exact .inl hx
      · exact .inr (by omega)
    obtain ⟨ha, hk⟩ := HD1.out.made (w := w) hF1' hF0 KP1.out y4 i3 i4 BB.out c _ _ O1.out OO.out nv nk w4 HW.out
    exact ⟨j + 1, rfl, by omega, Nat.le_trans i2 HD1.out.le, i3, ha, hk⟩

end Go.Proofs.YtghbbpbhbinioaaGreat

namespace Go.Proofs.YtghbbpbhbinioaaGreat
set_option maxRecDepth 100000
open Go.RowKit

section
variable {w w' w3 : World} {b most : Nat} {M : Cells} {F G : Nat → Prop} {n : Nat} {vc vf : Value} {fr : List Nat} {H : Nat → Nat}
theorem Cel.keepG {h : Nat} {c : Hc} {r : Nat} (hc : Cel w F vf h c r) (hk : Kp G w w') (h1 : ¬ G h)
    (hT : ∀ g, G g → ∃ cur t z, w.heap[g]? = some (.cells cur t z) ∧ t ≠ 36 ∧ (t ≠ 3 ∨ vf.ownBlock = some g)) : Cel w' F vf h c r := by
  obtain ⟨v, k, q1, q2, q3, q4, q5, q6, q7, q8⟩ := hc
  refine ⟨v, k, q1.kp hk h1, hk.own q2 fun j hj g => ?_, hk.own q3 fun j hj g => ?_, q4, q5, q6, q7, q8⟩
  · obtain ⟨cur, t, z, hg, t1, _⟩ := hT _ g
    exact own_ne q2 hg (Ne.symm t1) j hj rfl
  · obtain ⟨cur, t, z, hg, _, t2 | t2⟩ := hT _ g
    · exact own_ne q3 hg (Ne.symm t2) j hj rfl
    · exact (q6 j hj).2 t2
theorem places_cut {j : Nat} : places (upd M (j + 1) none) H n = (places M H n).set j (.pointer none) := by
  apply List.ext_getElem?
  intro k
  by_cases hk : k < n
  · rw [places_at hk, List.getElem?_set]
    by_cases e : j = k
    · subst e; rw [upd_same, if_pos rfl, if_pos (by rw [places_length]; exact hk)]; rfl
    · rw [if_neg e, places_at hk, upd_other _ _ (by omega)]
  · rw [List.getElem?_eq_none (by rw [places_length]; omega), List.getElem?_eq_none (by rw [List.length_set, places_length]; omega)]
theorem ns_snoc (l : List Nat) (i : Nat) : nums (ns (l ++ [i])) = nums (ns l) ++ [.int .i64 i] := by simp [nums, ns]

theorem ArD.freed {gc cc j : Nat} {c : Hc} {vf' : Value} {o : Obj} (h : ArD 0 w b most M F n (.slice (some ⟨gc, 0, none⟩) n cc) vf fr H) (hj : j < n) (hM : M (j + 1) = some (c, 1))
    (hown : w3.ownsRow 0 3 1 vf' (fr.length + 1) (nums (ns fr) ++ [.int .i64 ((j + 1 : Nat) : Int)]))
    (hg : (((w.setCell ⟨H (j + 1), 5, none⟩ (.int .i64 0)).setCell ⟨gc, j, none⟩ (.pointer none)).alloc o).grownBy w3 vf.ownBlock)
    (hat : vf'.ownBlock = vf.ownBlock ∨ vf'.ownBlock = some (w.heap.size + 1)) :
    ∀ w5, w5 = (w3.setCell ⟨b, 3, none⟩ vf').setCell ⟨b, 1, none⟩ (.int .i64 ((live (most + 1) M : Nat) - 1)) →
    Ar w5 b most (upd M (j + 1) none) (Fn F w w5) ∧ Kp F w w5 ∧ ∃ k, w5.cell? ⟨H (j + 1), 4, none⟩ = some k ∧ Rd w5 k c.kids.length (nums (ns c.kids)) := by
  rintro w5 hw5
  obtain ⟨_, _, _, hcel⟩ := h.cel (j + 1) c 1 hM
  obtain ⟨cur6, h6⟩ := hcel.six
  obtain ⟨curc, hgc⟩ := own_type h.cs gc rfl
  have hFH : F (H (j + 1)) := by obtain ⟨_, _, _, _, _, hf, _⟩ := hcel; exact hf
  have k1 : Kp (fun x => x = H (j + 1) ∨ x = gc) w (((w.setCell ⟨H (j + 1), 5, none⟩ (.int .i64 0)).setCell ⟨gc, j, none⟩ (.pointer none)).alloc o) :=
    (((Kp.refl (fun x => x = H (j + 1) ∨ x = gc) w).setCell (.inl (.inl rfl)) _).setCell (.inl (.inr rfl)) _).alloc _
  have k2 : Kp (fun x => x = H (j + 1) ∨ x = gc ∨ vf.ownBlock = some x) w w3 :=
    (k1.mono (G := fun x => x = H (j + 1) ∨ x = gc ∨ vf.ownBlock = some x) (fun _ e _ => e.elim .inl (fun e => .inr (.inl e)))).trans (Kp.of_grown (F := fun x => vf.ownBlock = some x) hg (fun _ e => .inl e)) (fun _ e => .inl (.inr (.inr e)))
  have k3 : Kp (fun x => x = H (j + 1) ∨ x = gc ∨ vf.ownBlock = some x ∨ x = b) w w5 := by
    rw [hw5]
    exact ((k2.mono (G := fun x => x = H (j + 1) ∨ x = gc ∨ vf.ownBlock = some x ∨ x = b) (fun _ e _ => e.elim .inl (fun e => .inr (e.elim .inl (fun e => .inr (.inl e)))))).setCell (.inl (.inr (.inr (.inr rfl)))) _).setCell (.inl (.inr (.inr (.inr rfl)))) _
  have hT : ∀ g, (g = H (j + 1) ∨ g = gc ∨ vf.ownBlock = some g ∨ g = b) → ∃ cur t z, w.heap[g]? = some (.cells cur t z) ∧ t ≠ 36 ∧ (t ≠ 3 ∨ vf.ownBlock = some g) := by
    rintro g (rfl | rfl | e | rfl)
    · exact ⟨_, _, _, h6, by decide, .inl (by decide)⟩
    · exact ⟨_, _, _, hgc, by decide, .inl (by decide)⟩
    · obtain ⟨cur, hc⟩ := own_type h.fs g e
      exact ⟨_, _, _, hc, by decide, .inr e⟩
    · exact ⟨_, _, _, h.row, by decide, .inl (by decide)⟩
  have hbH : b ≠ H (j + 1) := ne_types h.row h6 (by decide)
  have hbg : b ≠ gc := ne_types h.row hgc (by decide)
  have hgH : gc ≠ H (j + 1) := ne_types hgc h6 (by decide)
  have hfb : ∀ x, vf.ownBlock = some x → x ≠ b := own_ne h.fs h.row (by decide)
  have hfg : ∀ x, vf.ownBlock = some x → x ≠ gc := own_ne h.fs hgc (by decide)
  have hfH : ∀ x, vf.ownBlock = some x → x ≠ H (j + 1) := own_ne h.fs h6 (by decide)
  have kF : Kp F w w5 := k3.mono (fun x e _ => by
    rcases e with rfl | rfl | e | rfl
    · exact hFH
    · exact h.fc _ rfl
    · exact h.ff _ e
    · exact h.fb)
  have r3 : C4 w3 b 134 (.int .i64 most) (.int .i64 (live (most + 1) M)) (.slice (some ⟨gc, 0, none⟩) n cc) vf := h.row.kp k2 (fun e => by
    rcases e with e | e | e
    · exact hbH e
    · exact hbg e
    · exact hfb b e rfl)
  have hsz3 : w.heap.size + 1 ≤ w3.heap.size := by have := hg.size; simpa using this
  have hsz : w5.heap.size = w3.heap.size := by rw [hw5]; simp
  have hN : j + 1 < most + 1 := by have := h.le; omega
  have hlive : live (most + 1) (upd M (j + 1) none) + 1 = live (most + 1) M := by
    have := live_upd (M := M) (j + 1) none hN
    rw [hM] at this
    simpa [one] using this
  have hlen := h.len
  have hFn : ∀ x, F x → Fn F w w5 x := fun _ => .inl
  have hne : ∀ x, upd M (j + 1) none x ≠ none → x ≠ j + 1 ∧ M x ≠ none := fun x hx => by
    by_cases e : x = j + 1
    · subst e; rw [upd_same] at hx; exact absurd rfl hx
    · rw [upd_other _ _ e] at hx; exact ⟨e, hx⟩
  have hvf' : ∀ g, vf'.ownBlock = some g → vf.ownBlock = some g ∨ ¬ F g := fun g hg' => by
    rcases hat with e | e
    · exact .inl (e ▸ hg')
    · rw [e] at hg'; injection hg' with hg'; exact .inr fun hf => by have := h.lt g hf; omega
  refine ⟨⟨n, _, vf', fr ++ [j + 1], H, h.m1, h.m2, ?_, ?_, ?_, ?_, fun x y hx hy => h.inj x y (hne x hx).2 (hne y hy).2, ?_, ?_, ?_, h.le, hFn _ h.fb, fun x hx => hFn _ (h.fc x hx), ?_, Fn.lt h.lt kF.size⟩, kF, ?_⟩
  · have hl : ((live (most + 1) (upd M (j + 1) none) : Nat) : Int) = (live (most + 1) M : Nat) - 1 := by omega
    rw [hl, hw5]
    exact (r3.set3 _).set1 _
  · rw [places_cut]
    have s1 := (Kp.one w (H (j + 1)) 5 (.int .i64 0)).own h.cs (fun x hx e => by cases hx; exact hgH e)
    have s2 := ((s1.stored j (.pointer none)).1.alloc o)
    have s3 := (Kp.of_grown (F := fun x => vf.ownBlock = some x) hg (fun _ e => .inl e)).own s2 (fun x hx e => by cases hx; exact hfg _ e rfl)
    rw [hw5]
    exact (Kp.one _ b 1 _).own ((Kp.one _ b 3 _).own s3 (fun x hx e => by cases hx; exact hbg e.symm)) (fun x hx e => by cases hx; exact hbg e.symm)
  · rw [List.length_append, List.length_singleton, ns_snoc, hw5]
    have hb3 := own_ne hown r3 (by decide)
    exact (Kp.one _ b 1 _).own ((Kp.one _ b 3 _).own hown hb3) hb3
  · intro j' c' r' hj'
    obtain ⟨e, hM'⟩ := hne j' (by rw [hj']; simp)
    rw [upd_other _ _ e] at hj'
    obtain ⟨j1, j2, j3, j4⟩ := h.cel j' c' r' hj'
    obtain ⟨cur', h6'⟩ := j4.six
    refine ⟨j1, j2, j3, ((j4.keepG k3 ?_ hT).vf' hvf').mono hFn⟩
    rintro (e' | e' | e' | e')
    · exact e (h.inj j' (j + 1) hM' (by rw [hM]; simp) e')
    · exact ne_types h6' hgc (by decide) e'
    · exact own_ne h.fs h6' (by decide) _ e' rfl
    · exact ne_types h6' h.row (by decide) e'
  · rw [List.nodup_append]
    refine ⟨h.nd, by simp, fun x hx y hy => ?_⟩
    rintro rfl
    simp at hy
    subst hy
    have := (h.fi _ hx).2.2
    rw [hM] at this
    cases this
  · intro x hx
    rw [List.mem_append] at hx
    rcases hx with hx | hx
    · obtain ⟨x1, x2, x3⟩ := h.fi x hx
      refine ⟨x1, x2, ?_⟩
      by_cases e : x = j + 1
      · subst e; rw [upd_same]
      · rw [upd_other _ _ e]; exact x3
    · simp at hx; subst hx; exact ⟨by omega, by omega, upd_same _ _ _⟩
  · rw [List.length_append, List.length_singleton]; omega
  · intro x hx
    rcases hat with e | e
    · exact hFn _ (h.ff x (e ▸ hx))
    · have hlt := (hown.lt x hx).2
      rw [e] at hx; injection hx with hx; exact .inr ⟨by omega, by rw [hsz]; exact hlt⟩
  · obtain ⟨v, k, q1, _, q3, _, _, q6, _⟩ := hcel
    have hk3 : Rd w5 k c.kids.length (nums (ns c.kids)) := k3.rd (Rd.of_own q3) (fun x hx e => by
      rcases e with e | e | e | e
      · exact own_ne q3 h6 (by decide) x hx e
      · exact own_ne q3 hgc (by decide) x hx e
      · exact (q6 x hx).2 e
      · exact own_ne q3 h.row (by decide) x hx e)
    refine ⟨k, ?_, hk3⟩
    have a1 := (q1.set5 (.int .i64 0)).other (g := gc) (o := j) hgH.symm (.pointer none)
    have a2 := (a1.alloc o).grown hg (fun e => hfH _ e.symm rfl)
    have a3 := ((a2.other (g := b) (o := 3) hbH.symm vf').other (g := b) (o := 1) hbH.symm (.int .i64 ((live (most + 1) M : Nat) - 1)))
    rw [hw5]
    exact a3.c4
end

def Released (x b most : Nat) (M : Cells) (F : Nat → Prop) (w : World) (e : Ending) (w' : World) : Prop :=
  ∃ kv, e = .returned kv ∧ Rd w' kv (release M x).2.length (nums (ns (release M x).2)) ∧ Ar w' b most (release M x).1 (Fn F w w') ∧ Kp F w w'

set_option maxRecDepth 100000 in
set_option maxHeartbeats 1600000 in
theorem arelease (x b most : Nat) (M : Cells) (F : Nat → Prop) (w : World) (h : Ar w b most M F) (hr : rf (M x) ≤ 4611686018427387904) :
    Calls Tryz.prog 60 #[ap b, .int .i64 x] w (Released x b most M F w) := by
  obtain ⟨n, vc, vf, fr, H, h⟩ := h
  have Fn0 : ∀ k, Fn F w w k → F k ∨ w.heap.size ≤ k := fun _ => Fn.old
  cases hM : M x with
  | none =>
    have hf : fptr M H x = .pointer none := fptr_none M H (fun _ => by simpa using hM)
    have HR := Lib.hid (show release M x = (M, []) by unfold release; rw [hM])
    have hF : ArD 0 w b most M (Fn F w w) n vc vf fr H := by
      have : Fn F w w = F := by
        funext k
        exact propext ⟨fun h => h.elim id (fun h => by omega), .inl⟩
      rw [this]; exact h
    have HF := Lib.hid hF
    clear hF hM
    go_enter Tryz.func60, Tryz.ntmps60
    go_wp2_with (go_at_call 59; refine (find _ _ h).mono ?_; rintro e w' ⟨rfl, rfl⟩; rw [hf])
    go_ret
    exact ⟨_, rfl, by rw [HR.out]; exact Rd.nil w, by rw [HR.out]; exact ⟨n, vc, vf, fr, H, HF.out⟩, Kp.refl _ _⟩
  | some y =>
    obtain ⟨c, r⟩ := y
    rw [hM] at hr
    simp only [rf] at hr
    obtain ⟨x1, x2, x3, h6⟩ := h.cel x c r hM
    have hf := fptr_some M H x1 hM
    obtain ⟨v, k, r6, hv, hk, hFx, fv, fk, nv, nk⟩ := h6
    have c5 := r6.c5
    have f5 := r6.fz 5
    by_cases hr1 : 1 < r
    · have HR := Lib.hid (show release M x = (upd M x (some (c, r - 1)), []) by unfold release; rw [hM]; simp only [hr1, if_true])
      have e1 : ((r - 1 : Nat) : Int) = (r : Int) - 1 := by omega
      have hA : Kp (fun k => k = H x) w (w.setCell ⟨H x, 5, none⟩ (.int .i64 ((r : Int) - 1))) := Kp.one w _ _ _
      have hnew : ArD 0 (w.setCell ⟨H x, 5, none⟩ (.int .i64 ((r : Int) - 1))) b most (upd M x (some (c, r - 1))) (Fn F w (w.setCell ⟨H x, 5, none⟩ (.int .i64 ((r : Int) - 1)))) n vc vf fr H :=
        h.put (y := (c, r - 1)) hM hA (fun _ => .inl) (Fn.lt h.lt hA.size)
          ⟨v, k, by rw [e1]; exact r6.set5 _, hA.own hv (own_ne hv r6 (by decide)), hA.own hk (own_ne hk r6 (by decide)), .inl hFx, fun g hg => .inl (fv g hg), fun g hg => ⟨.inl (fk g hg).1, (fk g hg).2⟩, nv, nk⟩ (by simp; omega)
      have HN := Lib.hid hnew
      have HK := Lib.hid (show Kp F w _ from hA.mono (G := F) fun k e _ => e ▸ hFx)
      have hpos : (0 : Int) < (r : Int) - 1 := by omega
      clear hnew hA r6 hM e1
      go_enter Tryz.func60, Tryz.ntmps60
      go_wp2_with (go_at_call 59; refine (find _ _ h).mono ?_; rintro e w' ⟨rfl, rfl⟩; rw [hf])
      go_ret
      exact ⟨_, rfl, by rw [HR.out]; exact Rd.nil _, by rw [HR.out]; exact ⟨n, vc, vf, fr, H, HN.out⟩, HK.out⟩
    · obtain rfl : r = 1 := by omega
      have HR := Lib.hid (show release M x = (upd M x none, c.kids) by unfold release; rw [hM]; rfl)
      obtain ⟨j, rfl⟩ : ∃ j, x = j + 1 := ⟨x - 1, by omega⟩
      obtain ⟨gc, cc, rfl, _, hx, hfz⟩ := own_at h.cs (places_at (M := M) (H := H) (n := n) (j := j) (by omega))
      obtain ⟨i1, hi1, hy0, hy1, hy2⟩ := info_parts iinfo
      have hn : n ≤ 1048576 := by have := h.le; have := h.m2; omega
      have hfr : fr.length ≤ 1048576 := by have := h.len; omega
      obtain ⟨curc, hgc⟩ := own_type h.cs gc rfl
      have hbH : b ≠ H (j + 1) := ne_types h.row r6 (by decide)
      have hbg : b ≠ gc := ne_types h.row hgc (by decide)
      have hgH : gc ≠ H (j + 1) := ne_types hgc r6 (by decide)
      have hx' := (World.cell?_setCell_other w ⟨H (j + 1), 5, none⟩ ⟨gc, j, none⟩ (.int .i64 0) (fun e => hgH (by injection e with e; exact e.symm))).trans hx
      have hf' : fptr M H ((j : Int) + 1) = ap (H (j + 1)) := hf
      clear hf
      have HH := Lib.hid h
      have r4 := ((h.row.other (g := H (j + 1)) (o := 5) hbH (.int .i64 0)).other (g := gc) (o := j) hbg (.pointer none))
      have c3 := r4.c3
      have c2 := (h.row.other (g := H (j + 1)) (o := 5) hbH (.int .i64 0)).c2
      obtain ⟨Af, cf, rfl, _⟩ := (Rd.of_own h.fs).form
      have hfz' : (w.setCell ⟨H (j + 1), 5, none⟩ (.int .i64 0)).frozen? ⟨gc, j, none⟩ = false := by rw [World.frozen?_setCell]; exact hfz
      have hfs2 := (Kp.one (w.setCell ⟨H (j + 1), 5, none⟩ (.int .i64 0)) gc j (.pointer none)).own ((Kp.one w (H (j + 1)) 5 (.int .i64 0)).own h.fs (own_ne h.fs r6 (by decide))) (own_ne h.fs hgc (by decide))
      have HFS := Lib.hid hfs2
      have HM := Lib.hid hM
      clear hM hfs2 r4 r6 h hv hk hgc
      go_enter Tryz.func60, Tryz.ntmps60
      go_wp2_with (first | (go_at_call 59; refine (find _ _ HH.out).mono ?_; rintro e w' ⟨rfl, rfl⟩; rw [hf']) | (at_builtin; refine wpList_append_rd rfl _ _ 92 rfl 0 3 i1 _ 1 8 Tryz.underlying92 hi1 hy0 hy1 hy2 rfl (by decide) _ fr.length (nums (ns fr)) rfl (HFS.out.alloc _) _ 1 [.int .i64 ((j + 1 : Nat) : Int)] rfl ?k0 rfl ?k1 ?k2 ?k3 (Nat.zero_le _) ?_))
      case k0 => exact Rd.one' _ _ _ _ (by simp)
      case k1 => intro u hu; simp at hu; subst hu; rfl
      case k2 => unfold maxLen; omega
      case k3 => omega
      intro v1 w3 hown hg hat
      obtain ⟨A1, m1, rfl, _⟩ := (Rd.of_own hown).form
      have hfb : ∀ x, (Value.slice Af fr.length cf).ownBlock = some x → x ≠ b := own_ne HH.out.fs HH.out.row (by decide)
      have r3 := (((HH.out.row.other (g := H (j + 1)) (o := 5) hbH (.int .i64 0)).other (g := gc) (o := j) hbg (.pointer none)).alloc _).grown hg (fun e => hfb b e.symm rfl)
      have d3 := r3.c3
      have e3 := r3.fz 3
      have r5 := r3.set3 (.slice A1 (fr.length + 1) m1)
      have R5 := Lib.hid r5
      have HF := Lib.hid (HH.out.freed (by omega) HM.out hown hg (by simpa using hat))
      have hlv : live (most + 1) M ≤ 1048576 := by have := HH.out.len; omega
      clear r3 r5 hown hg hat c3 c2 hx hx' hfz hfz' c5 f5 hfb
      go_wp2_with (go_at_call 76; refine (add64 ⟨b, 1, none⟩ _ (-1) _ R5.out.c1 (R5.out.fz 1) (by omega) (by omega)).mono ?_; rintro e w5 ⟨rfl, hw5⟩; obtain ⟨ha, hkp, k0, ck, hrd⟩ := HF.out w5 hw5; obtain ⟨Ak, mk, rfl, _⟩ := hrd.form; have HA := Lib.hid ha; have HKP := Lib.hid hkp; have HRD := Lib.hid hrd; clear ha hkp hrd hw5)
      go_ret
      exact ⟨_, rfl, by rw [HR.out]; exact HRD.out, by rw [HR.out]; exact HA.out, HKP.out⟩

def kl (N : Nat) (M : Cells) : Nat := sumTo N fun j => (kd (M j)).length
section
variable {N : Nat} {M : Cells}
theorem kl_upd (i : Nat) (v : Option (Hc × Nat)) (h : i < N) : kl N (upd M i v) + (kd (M i)).length = kl N M + (kd v).length := by
  unfold kl
  rw [upd_comp (fun x => (kd x).length) M i v]
  exact sumTo_upd _ _ _ _ h
theorem release_kl {x : Nat} (hx : M x ≠ none → x < N) : kl N (release M x).1 + (release M x).2.length ≤ kl N M := by
  unfold release
  cases e : M x with
  | none => simp
  | some y =>
    obtain ⟨c, r⟩ := y
    have hx' := hx (by rw [e]; simp)
    by_cases hr : 1 < r
    · simp only [hr, if_true]
      have := kl_upd (M := M) x (some (c, r - 1)) hx'
      rw [e] at this
      simp only [kd, List.length_nil] at *
      omega
    · simp only [hr, if_false]
      have := kl_upd (M := M) x none hx'
      rw [e] at this
      simp only [kd, List.length_nil] at *
      omega
theorem release_rf (x j : Nat) : rf ((release M x).1 j) ≤ rf (M j) := by
  unfold release
  cases e : M x with
  | none => exact Nat.le_refl _
  | some y =>
    obtain ⟨c, r⟩ := y
    by_cases hj : j = x
    · subst hj
      by_cases hr : 1 < r
      · simp only [hr, if_true, upd_same, e, rf]; omega
      · simp only [hr, if_false, upd_same, e, rf]; omega
    · by_cases hr : 1 < r
      · simp only [hr, if_true, upd_other _ _ hj]; exact Nat.le_refl _
      · simp only [hr, if_false, upd_other _ _ hj]; exact Nat.le_refl _
end
theorem Ar.mono {w : World} {b most : Nat} {M : Cells} {F G : Nat → Prop} (h : Ar w b most M F) (hF : ∀ k, F k → G k) (hG : ∀ k, G k → k < w.heap.size) : Ar w b most M G := by
  obtain ⟨n, vc, vf, fr, H, h⟩ := h
  refine ⟨n, vc, vf, fr, H, h.m1, h.m2, h.row, h.cs, h.fs, fun j c r hj => ?_, h.inj, h.nd, h.fi, h.len, h.le, hF _ h.fb, fun k hk => hF _ (h.fc k hk), fun k hk => hF _ (h.ff k hk), hG⟩
  obtain ⟨h1, h2, h3, h4⟩ := h.cel j c r hj
  exact ⟨h1, h2, h3, h4.mono hF⟩
section
variable {w : World} {b most : Nat} {M : Cells} {F : Nat → Prop}
theorem Ar.top (h : Ar w b most M F) {j : Nat} (hj : M j ≠ none) : 1 ≤ j ∧ j < most + 1 := by
  obtain ⟨n, vc, vf, fr, H, h⟩ := h
  have := h.held hj
  have := h.le
  omega
theorem Ar.pos (h : Ar w b most M F) {j : Nat} (hj : M j ≠ none) : 1 ≤ rf (M j) := by
  obtain ⟨n, vc, vf, fr, H, h⟩ := h
  cases e : M j with
  | none => exact absurd e hj
  | some x => exact (h.cel j x.1 x.2 e).2.2.1
theorem Ar.kids (h : Ar w b most M F) (j : Nat) : (kd (M j)).length ≤ 4194304 := by
  obtain ⟨n, vc, vf, fr, H, h⟩ := h
  cases e : M j with
  | none => simp [kd]
  | some x => obtain ⟨_, _, _, _, _, _, _, _, _, _, _, _, hk⟩ := h.cel j x.1 x.2 e; exact hk
theorem Ar.kl_le (h : Ar w b most M F) : kl (most + 1) M ≤ 4398050705408 := by
  have h1 := sumTo_le (f := fun j => (kd (M j)).length) 4194304 (most + 1) (fun j _ => h.kids j)
  have h2 : most ≤ 1048576 := by obtain ⟨n, vc, vf, fr, H, h⟩ := h; exact h.m2
  have h3 : (most + 1) * 4194304 ≤ 1048577 * 4194304 := Nat.mul_le_mul_right _ (by omega)
  unfold kl
  omega
end

def Dr (i b most : Nat) (M : Cells) (F : Nat → Prop) (w0 : World) (k : Nat) (x : Value) (wr : World) : Prop :=
  ∃ (Mr : Cells) (t : List Nat) (G : Nat → Prop), k = load (most + 1) Mr + t.length ∧ (∀ M', Drops Mr t M' → Drops M [i] M') ∧ Ar wr b most Mr G ∧ (∀ g, G g → F g ∨ w0.heap.size ≤ g) ∧
    wr.ownsRow w0.heap.size 3 1 x t.length (nums (ns t)) ∧ (∀ g, x.ownBlock = some g → ¬ G g) ∧ Kp F w0 wr ∧ kl (most + 1) Mr + t.length ≤ kl (most + 1) M + 1 ∧ ∀ j, rf (Mr j) ≤ 4611686018427387904

theorem Dr.step {i b most : Nat} {M : Cells} {F : Nat → Prop} {w0 wr w1 w2 : World} {Mr : Cells} {t : List Nat} {x : Nat} {G : Nat → Prop} {A : Option Addr} {m : Nat} {v' : Value} (hd : ∀ M', Drops Mr (t ++ [x]) M' → Drops M [i] M') (ha : Ar wr b most Mr G) (hG : ∀ g, G g → F g ∨ w0.heap.size ≤ g)
    (hown : wr.ownsRow w0.heap.size 3 1 (.slice A t.length m) t.length (nums (ns t))) (hx : ∀ g, (Value.slice A t.length m).ownBlock = some g → ¬ G g) (hk : Kp F w0 wr) (hkl : kl (most + 1) Mr + (t ++ [x]).length ≤ kl (most + 1) M + 1) (hrf : ∀ j, rf (Mr j) ≤ 4611686018427387904)
    (ha1 : Ar w1 b most (release Mr x).1 (Fn G wr w1)) (hk1 : Kp G wr w1)
    (hown2 : w2.ownsRow w0.heap.size 3 1 v' (t.length + (release Mr x).2.length) (nums (ns t) ++ nums (ns (release Mr x).2))) (hg2 : w1.grownBy w2 (Value.slice A t.length m).ownBlock) (hat : v'.ownBlock = (Value.slice A t.length m).ownBlock ∨ v'.ownBlock = some w1.heap.size) :
    ∃ k', k' < load (most + 1) Mr + (t ++ [x]).length ∧ Dr i b most M F w0 k' v' w2 := by
  have hlt : ∀ g, (Value.slice A t.length m).ownBlock = some g → w0.heap.size ≤ g ∧ g < wr.heap.size := hown.lt
  have hnF : ∀ g, (Value.slice A t.length m).ownBlock = some g → ¬ Fn G wr w1 g := fun g e hf => by
    rcases hf with hf | hf
    · exact hx g e hf
    · have := (hlt g e).2; omega
  have hr := ha.top (j := x)
  refine ⟨load (most + 1) (release Mr x).1 + (t ++ (release Mr x).2).length, ?_, (release Mr x).1, t ++ (release Mr x).2, Fn G wr w1, rfl, fun M' hM => hd M' (.step hM), ?_, ?_, ?_, ?_, ?_, ?_, ?_⟩
  · have := release_load (N := most + 1) (M := Mr) (x := x) (by
      by_cases e : Mr x = none
      · exact .inr e
      · exact .inl (hr e).2) (ha.pos (j := x))
    simp only [List.length_append, List.length_singleton]
    omega
  · exact ha1.kp (Kp.of_grown (F := fun g => (Value.slice A t.length m).ownBlock = some g) hg2 (fun _ e => .inl e)) (fun g hg e => hnF g e hg)
  · intro g hg
    rcases hg with hg | hg
    · exact hG g hg
    · have := hk.size; exact .inr (by omega)
  · have e1 : (t ++ (release Mr x).2).length = t.length + (release Mr x).2.length := by simp
    have e2 : nums (ns (t ++ (release Mr x).2)) = nums (ns t) ++ nums (ns (release Mr x).2) := by simp [nums, ns]
    rw [e1, e2]
    exact hown2
  · intro g hg
    rcases hat with e | e
    · exact hnF g (e ▸ hg)
    · rw [e] at hg
      injection hg with hg
      subst hg
      exact fun hf => by have := ha1.lt hf; omega
  · exact (hk.trans hk1 hG).trans (Kp.of_grown (F := fun g => (Value.slice A t.length m).ownBlock = some g) hg2 (fun _ e => .inl e)) (fun g e => .inr (hlt g e).1)
  · have := release_kl (N := most + 1) (M := Mr) (x := x) (fun e => (hr e).2)
    simp only [List.length_append, List.length_singleton] at hkl ⊢
    omega
  · exact fun j => Nat.le_trans (release_rf x j) (hrf j)

def Dropped (i b most : Nat) (M : Cells) (F : Nat → Prop) (w : World) (e : Ending) (w' : World) : Prop :=
  e = .returned (.int .i64 0) ∧ ∃ M', Drops M [i] M' ∧ Ar w' b most M' (Fn F w w') ∧ Kp F w w'

set_option maxHeartbeats 4000000 in
theorem adrop (i b most : Nat) (M : Cells) (F : Nat → Prop) (w : World) (h : Ar w b most M F) (hi : M i ≠ none) (hr : ∀ j, rf (M j) ≤ 4611686018427387904) :
    Calls Tryz.prog 28 #[ap b, .int .i64 i] w (Dropped i b most M F w) := by
  obtain ⟨i1, hi1, hy0, hy1, hy2⟩ := info_parts iinfo
  obtain ⟨y, hy⟩ := Option.ne_none_iff_exists'.1 hi
  have HH := Lib.hid h
  have hF := Lib.hid (fun k hk => h.lt (k := k) hk)
  have i1' := (h.top hi).1
  have hkl := Lib.hid h.kl_le
  obtain ⟨n, vc, vf, fr, H, hD⟩ := h
  have hf := fptr_some M H i1' hy
  have HR := Lib.hid hr
  clear hi hy hr
  go_enter Tryz.func28, Tryz.ntmps28
  go_wp2_with (go_at_call 59; refine (find _ _ hD).mono ?_; rintro e w' ⟨rfl, rfl⟩; rw [hf])
  go_loopg [5] (load (most + 1) M + 1) (fun k x wr => Dr i b most M F w k x wr)
  case atStart =>
    refine ⟨M, [i], F, rfl, fun _ => id, HH.out.alloc _, fun _ => .inl, ?_, ?_, (Kp.refl F w).alloc _, by simp, HR.out⟩
    · exact World.ownsRow_lit (base := w.heap.size) (e := 3) (size := 1) w #[.int .i64 i] 1 (Nat.le_refl _) (by unfold maxLen; omega) rfl
    · intro g hg hf'; cases hg; exact absurd (hF.out _ hf') (Nat.lt_irrefl _)
  case round =>
    obtain ⟨Mr, t, G, rfl, hd, ha, hG, hown, hx, hk, hl, hrf⟩ := hrel
    have hlen : t.length ≤ 4398050705409 := by have := hkl.out; omega
    obtain ⟨A, m, rfl, hm⟩ := (Rd.of_own hown).form
    by_cases hnil : t = []
    · subst hnil
      have HE := Lib.hid (hd Mr (.done Mr))
      clear hd
      go_wp2_with fail
      go_ret
      refine ⟨rfl, Mr, HE.out, ha.mono ?_ ?_, hk⟩
      · intro g hg
        rcases hG g hg with e | e
        · exact .inl e
        · exact .inr ⟨e, ha.lt hg⟩
      · exact Fn.lt hF.out hk.size
    · obtain ⟨t', x, rfl⟩ : ∃ l i, t = l ++ [i] := ⟨t.dropLast, t.getLast hnil, (List.dropLast_concat_getLast hnil).symm⟩
      obtain ⟨g, c, e, _, hcell, _⟩ := own_at hown (j := t'.length) (u := .int .i64 x) (by rw [nums_at]; simp [ns])
      simp only [Value.slice.injEq, true_and] at e
      obtain ⟨rfl, rfl⟩ := e
      have hown' := own_take hown (m := t'.length) (by simp)
      rw [take_ns] at hown'
      have hl1 : (t' ++ [x]).length = t'.length + 1 := by simp
      have hm' : t'.length ≤ m := by omega
      clear hm
      have HO := Lib.hid hown
      have HO' := Lib.hid hown'
      have HA := Lib.hid ha
      have HD := Lib.hid hd
      have HG := Lib.hid hG
      have HX := Lib.hid hx
      have HK := Lib.hid hk
      have HL := Lib.hid hl
      have HRF := Lib.hid hrf
      clear hown hown' ha hd hG hx hk hl hrf hnil
      rw [hl1] at hlen ⊢
      go_wp2_with fail
      have hc1 : kl (most + 1) M ≤ 4398050705408 := hkl.out
      have hkk : ∀ k, (release Mr x).2.length ≤ k → t'.length + k ≤ 4398050705409 → True := fun _ _ _ => trivial
      have hrl : t'.length + (release Mr x).2.length ≤ 4398050705409 := by
        have h1 := release_kl (N := most + 1) (M := Mr) (x := x) (fun e => (HA.out.top e).2)
        have h2 := HL.out
        rw [hl1] at h2
        omega
      have k2 : t'.length + (release Mr x).2.length ≤ maxLen := by unfold maxLen; omega
      have k3 : (t'.length + (release Mr x).2.length) * 8 ≤ 140737488355328 := by omega
      have hsz := HK.out.size
      have HB := Lib.hid (show ∀ w1, Kp G wr.drew w1 → w.heap.size ≤ w1.heap.size from fun w1 h => Nat.le_trans hsz h.size)
      have HL1 := Lib.hid (show (nums (ns (release Mr x).2)).length = (release Mr x).2.length * 1 by rw [nums_length, ns_length]; omega)
      clear hkk hc1 hrl hsz hl1
      go_region_law (first
        | (refine step_call rfl 60 #[ap b, .int .i64 x] (by go_simp) (arelease x b most Mr G _ HA.out.drew (HRF.out x)) ?_; rintro v1 w1 ⟨hrd, ha1, hk1⟩; obtain ⟨A1, m1, rfl, _⟩ := hrd.form; have HRD := Lib.hid hrd; have HA1 := Lib.hid ha1; have HK1 := Lib.hid hk1; clear hrd ha1 hk1)
        | (refine step_append_rd rfl _ _ 92 rfl w.heap.size 3 i1 _ 1 8 Tryz.underlying92 hi1 hy0 hy1 hy2 rfl (by decide) _ t'.length (nums (ns t')) rfl (HK1.out.own HO'.out HX.out) _ _ _ rfl HRD.out HL1.out (nums_one _) k2 k3 (HB.out _ HK1.out) ?_; intro v2 w2 hown2 hg2 hat2; have HO2 := Lib.hid hown2; have HG2 := Lib.hid hg2; have HAT := Lib.hid hat2; clear hown2 hg2 hat2))
      all_goals
        obtain ⟨k', hlt', hdr⟩ := Dr.step (i := i) (M := M) (F := F) HD.out HA.out HG.out HO'.out HX.out HK.out HL.out HRF.out HA1.out (show Kp G wr w1 from ⟨HK1.out.os, HK1.out.tape, HK1.out.output, HK1.out.size, HK1.out.block⟩) HO2.out HG2.out HAT.out
        obtain ⟨A2, m2, rfl, _⟩ := (Rd.of_own HO2.out).form
        have HDR := Lib.hid hdr
        clear hdr
        go_wp2_with fail
        go_roundg k'
        case measure => exact hlt'
        case rel => exact HDR.out

end Go.Proofs.YtghbbpbhbinioaaGreat

/- Several texts in one. -/
import Derived.Test.YtacoingheieceaaGreatMA06
/- Package arena: Make. -/
namespace Go.Proofs.YtacoingheieceaaGreat
set_option maxRecDepth 100000
open Go.RowKit

theorem below_drewN (w : World) (k : Nat) : Below w.heap.size w (w.drewN k) := ⟨rfl, rfl, rfl, Nat.le_refl _, fun _ _ => rfl⟩

theorem add64 (a : Addr) (x y : Int) (w : World) (hc : w.cell? a = some (.int .i64 x)) (hz : w.frozen? a = false) (h1 : -9223372036854775808 ≤ x + y) (h2 : x + y ≤ 9223372036854775807) :
    Calls Tryz.prog 101 #[.pointer (some a), .int .i64 y] w fun e w' => e = .returned (.int .i64 (x + y)) ∧ w' = w.setCell a (.int .i64 (x + y)) := by
  have hs : (Op.intArith .add .i64 x y).run Tryz.prog w = .ok (.int .i64 (x + y)) w := by
    have e := IntWalk.i64_in (x + y) ⟨h1, h2⟩
    simp [Op.intArith, e]
  have hl := run_call_add (P := Tryz.prog) Tryz.func132 (by kernel_rfl) (by kernel_rfl) (by kernel_rfl) .i64 (by kernel_rfl) hc hz hs
  clear hs
  go_enter Tryz.func101, Tryz.ntmps101
  go_wp2
  go_ret
  exact ⟨rfl, rfl⟩

def Made (c : Hc) (b most : Nat) (M : Cells) (F : Nat → Prop) (w : World) (e : Ending) (w' : World) : Prop :=
  ∃ i : Nat, e = .returned (.tuple #[.int .i64 i, .int .i64 0]) ∧ 1 ≤ i ∧ i ≤ most ∧ M i = none ∧ Ar w' b most (upd M i (some (c, 1))) (Fn F w w') ∧ Kp F w w'

section
variable {w w1 w2 : World} {b most : Nat} {M : Cells} {F F1 : Nat → Prop} {n gc cc j : Nat} {vf : Value} {fr : List Nat} {H : Nat → Nat}
theorem places_put {y : Hc × Nat} {g : Nat} : places (upd M (j + 1) (some y)) (upd H (j + 1) g) n = (places M H n).set j (.pointer (some ⟨g, 0, none⟩)) := by
  apply List.ext_getElem?
  intro k
  by_cases hk : k < n
  · rw [places_at hk, List.getElem?_set]
    by_cases e : j = k
    · subst e; rw [upd_same, upd_same, if_pos rfl, if_pos (by rw [places_length]; exact hk)]; rfl
    · rw [if_neg e, places_at hk, upd_other _ _ (by omega), upd_other _ _ (by omega)]
  · rw [List.getElem?_eq_none (by rw [places_length]; omega), List.getElem?_eq_none (by rw [List.length_set, places_length]; omega)]

/-- A new cell in its place, and counted. -/
theorem ArD.made (h : ArD 1 w1 b most M F1 n (.slice (some ⟨gc, 0, none⟩) n cc) vf fr H) (hF1 : ∀ k, F1 k → F k ∨ w.heap.size ≤ k) (hF0 : ∀ k, F k → F1 k) (k1 : Kp F w w1) (hj : j < n) (hM : M (j + 1) = none) (hfr : j + 1 ∉ fr) (hB : Below w1.heap.size w1 w2)
    (c : Hc) (v k : Value) (o1 : w2.ownsRow w1.heap.size 43 3 v c.vals.length (c.vals.flatMap cells3)) (o2 : w2.ownsRow w1.heap.size 3 1 k c.kids.length (nums (ns c.kids))) (nv : c.vals.length ≤ 4194304) (nk : c.kids.length ≤ 4194304) :
    ∀ w4, w4 = (((w2.setCell ⟨gc, j, none⟩ (.pointer (some ⟨w2.heap.size, 0, none⟩))).alloc (.cells #[.int .u32 c.owner, .int .u32 c.a, .int .u32 c.b, v, k, .int .i64 1] 172)).setCell ⟨b, 1, none⟩ (.int .i64 ((live (most + 1) M : Nat) + 1))) →
    Ar w4 b most (upd M (j + 1) (some (c, 1))) (Fn F w w4) ∧ Kp F w w4 := by
  rintro w4 rfl
  obtain ⟨curc, hgc⟩ := own_type h.cs gc rfl
  have hbg : b ≠ gc := ne_types h.row hgc (by decide)
  have hs1 := k1.size
  have hs2 := hB.size
  have hgl : gc < w1.heap.size := (Array.getElem?_eq_some_iff.1 hgc).1
  have hbl := h.row.lt
  have ka : Kp (fun x => x = gc) w2 ((w2.setCell ⟨gc, j, none⟩ (.pointer (some ⟨w2.heap.size, 0, none⟩))).alloc (.cells #[.int .u32 c.owner, .int .u32 c.a, .int .u32 c.b, v, k, .int .i64 1] 172)) := (Kp.one w2 gc j _).alloc _
  have kb : Kp (fun x => x = gc ∨ x = b) w2 (((w2.setCell ⟨gc, j, none⟩ (.pointer (some ⟨w2.heap.size, 0, none⟩))).alloc (.cells #[.int .u32 c.owner, .int .u32 c.a, .int .u32 c.b, v, k, .int .i64 1] 172)).setCell ⟨b, 1, none⟩ (.int .i64 ((live (most + 1) M : Nat) + 1))) :=
    (ka.mono (G := fun x => x = gc ∨ x = b) (fun _ e _ => .inl e)).setCell (.inl (.inr rfl)) _
  have kt := (Kp.of_below hB (fun x => x = gc ∨ x = b)).trans kb (fun _ => .inl)
  have hG : ∀ x, (x = gc ∨ x = b) → ∃ cur t z, w1.heap[x]? = some (.cells cur t z) ∧ t ≠ 172 ∧ t ≠ 43 ∧ t ≠ 3 := by
    rintro x (rfl | rfl)
    · exact ⟨_, _, _, hgc, by decide, by decide, by decide⟩
    · exact ⟨_, _, _, h.row, by decide, by decide, by decide⟩
  have kF : Kp F w (((w2.setCell ⟨gc, j, none⟩ (.pointer (some ⟨w2.heap.size, 0, none⟩))).alloc (.cells #[.int .u32 c.owner, .int .u32 c.a, .int .u32 c.b, v, k, .int .i64 1] 172)).setCell ⟨b, 1, none⟩ (.int .i64 ((live (most + 1) M : Nat) + 1))) :=
    k1.trans kt (fun x e => by
      rcases e with rfl | rfl
      · exact hF1 _ (h.fc _ rfl)
      · exact hF1 _ h.fb)
  have hsz : (((w2.setCell ⟨gc, j, none⟩ (.pointer (some ⟨w2.heap.size, 0, none⟩))).alloc (.cells #[.int .u32 c.owner, .int .u32 c.a, .int .u32 c.b, v, k, .int .i64 1] 172)).setCell ⟨b, 1, none⟩ (.int .i64 ((live (most + 1) M : Nat) + 1))).heap.size = w2.heap.size + 1 := by simp
  have hN : j + 1 < most + 1 := by have := h.le; omega
  have hlive : live (most + 1) (upd M (j + 1) (some (c, 1))) = live (most + 1) M + 1 := by
    have := live_upd (M := M) (j + 1) (some (c, 1)) hN
    rw [hM] at this
    simpa [one] using this
  have hlen := h.len
  have hFn : ∀ x, F1 x → Fn F w _ x := fun x hx => by
    rcases hF1 x hx with e | e
    · exact .inl e
    · exact .inr ⟨e, by have := h.lt x hx; rw [hsz]; omega⟩
  have r2 := h.row.below hB
  have hcs2 : w2.ownsRow 0 125 1 (.slice (some ⟨gc, 0, none⟩) n cc) n (places M H n) := (Kp.of_below hB (fun _ => False)).own h.cs (fun _ _ => id)
  have new : ∀ x, w1.heap.size ≤ x → x < w2.heap.size + 1 → Fn F w (((w2.setCell ⟨gc, j, none⟩ (.pointer (some ⟨w2.heap.size, 0, none⟩))).alloc (.cells #[.int .u32 c.owner, .int .u32 c.a, .int .u32 c.b, v, k, .int .i64 1] 172)).setCell ⟨b, 1, none⟩ (.int .i64 ((live (most + 1) M : Nat) + 1))) x :=
    fun x hx hx' => .inr ⟨by omega, by rw [hsz]; exact hx'⟩
  refine ⟨⟨n, _, vf, fr, upd H (j + 1) w2.heap.size, h.m1, h.m2, ?_, ?_, ?_, ?_, ?_, h.nd, ?_, ?_, h.le, hFn _ h.fb, fun x hx => hFn _ (h.fc x hx), fun x hx => hFn _ (h.ff x hx), ?_⟩, kF⟩
  · rw [hlive]; exact ((r2.other hbg _).alloc _).set1 _
  · rw [places_put]
    have st := (hcs2.stored j (.pointer (some ⟨w2.heap.size, 0, none⟩))).1.alloc (.cells #[.int .u32 c.owner, .int .u32 c.a, .int .u32 c.b, v, k, .int .i64 1] 172)
    exact (Kp.one _ b 1 _).own st (fun x hx e => by cases hx; exact hbg e.symm)
  · refine kt.own h.fs fun x hx e => ?_
    obtain ⟨cur, t, z, hg, _, _, t3⟩ := hG _ e
    exact own_ne h.fs hg (Ne.symm t3) x hx rfl
  · intro j' c' r' hj'
    by_cases e : j' = j + 1
    · subst e
      rw [upd_same] at hj'
      injection hj' with hj'
      injection hj' with e1 e2
      subst e1 e2
      refine ⟨by omega, by omega, Nat.le_refl _, ?_⟩
      rw [upd_same]
      refine ⟨v, k, ?_, own_less (kb.own o1 ?_) (Nat.zero_le _), own_less (kb.own o2 ?_) (Nat.zero_le _), new _ (by omega) (by omega), fun g hg => new _ (o1.lt g hg).1 (by have := (o1.lt g hg).2; omega), fun g hg => ⟨new _ (o2.lt g hg).1 (by have := (o2.lt g hg).2; omega), fun e => ?_⟩, nv, nk⟩
      · have := C6.new (w2.setCell ⟨gc, j, none⟩ (.pointer (some ⟨w2.heap.size, 0, none⟩))) 172 (.int .u32 c.owner) (.int .u32 c.a) (.int .u32 c.b) v k (.int .i64 1)
        have hw : (w2.setCell ⟨gc, j, none⟩ (.pointer (some ⟨w2.heap.size, 0, none⟩))).heap.size = w2.heap.size := by simp
        rw [hw] at this
        exact this.other (by omega) _
      · intro x hx e; have := (o1.lt x hx).1; omega
      · intro x hx e; have := (o2.lt x hx).1; omega
      · have := (h.fs.lt g e).2; have := (o2.lt g hg).1; omega
    · rw [upd_other _ _ e] at hj'
      obtain ⟨j1, j2, j3, j4⟩ := h.cel j' c' r' hj'
      rw [upd_other _ _ e]
      exact ⟨j1, j2, j3, (j4.keepT kt hG).mono hFn⟩
  · have hlt : ∀ x, M x ≠ none → H x < w1.heap.size := fun x hx => by
      cases e : M x with
      | none => exact absurd e hx
      | some y => obtain ⟨cur, h6⟩ := (h.cel x y.1 y.2 e).2.2.2.six; exact (Array.getElem?_eq_some_iff.1 h6).1
    intro x y hx hy e
    by_cases ex : x = j + 1
    · by_cases ey : y = j + 1
      · omega
      · subst ex
        rw [upd_other _ _ ey] at hy e
        rw [upd_same] at e
        have := hlt y hy
        omega
    · by_cases ey : y = j + 1
      · subst ey
        rw [upd_other _ _ ex] at hx e
        rw [upd_same] at e
        have := hlt x hx
        omega
      · rw [upd_other _ _ ex] at hx e
        rw [upd_other _ _ ey] at hy e
        exact h.inj x y hx hy e
  · intro x hx
    obtain ⟨x1, x2, x3⟩ := h.fi x hx
    exact ⟨x1, x2, by rw [upd_other _ _ (by rintro rfl; exact hfr hx)]; exact x3⟩
  · rw [hlive]; omega
  · intro x hx
    rcases hx with hx | hx
    · have := h.lt x (hF0 x hx); rw [hsz]; omega
    · exact hx.2
end

set_option maxRecDepth 100000 in
set_option maxHeartbeats 4000000 in
theorem amake (c : Hc) (v k : Value) (b most : Nat) (M : Cells) (F : Nat → Prop) (w : World) (h : Ar w b most M F) (hv : Rd w v c.vals.length (c.vals.flatMap cells3)) (hk : Rd w k c.kids.length (nums (ns c.kids)))
    (nv : c.vals.length ≤ 4194304) (nk : c.kids.length ≤ 4194304) (fv : ∀ g, v.ownBlock = some g → ¬ F g) (fk : ∀ g, k.ownBlock = some g → ¬ F g) (hg : (ns c.kids).all (goodB M) = true) (hlt : live (most + 1) M < most) :
    Calls Tryz.prog 117 #[ap b, cagg c.owner c.a c.b v k] w (Made c b most M F w) := by
  obtain ⟨A, cv, rfl, _⟩ := hv.form
  obtain ⟨A', ck, rfl, _⟩ := hk.form
  have hm2 : most ≤ 1048576 := by obtain ⟨_, _, _, _, _, h⟩ := h; exact h.m2
  have hr : ¬ ((most : Int) - (live (most + 1) M : Nat) = 0) := by omega
  have HH := Lib.hid h
  have HV := Lib.hid hv
  have HK := Lib.hid hk
  clear hv hk h
  go_enter Tryz.func117, Tryz.ntmps117
  go_wp2_with fail
  obtain ⟨n, vc, vf, fr, H, hD⟩ := HH.out.alloc (.cells #[.int .u32 c.owner, .int .u32 c.a, .int .u32 c.b, .slice A c.vals.length cv, .slice A' c.kids.length ck] 170)
  refine (allHeld _ (ns c.kids) _ hD (by rw [ns_length]; exact HK.out.alloc _) (by rw [ns_length]; exact nk)).mono ?_
  rintro e w0 ⟨rfl, hw⟩
  rw [hg]
  have q0 : C5 w0 w.heap.size 170 (.int .u32 c.owner) (.int .u32 c.a) (.int .u32 c.b) (.slice A c.vals.length cv) (.slice A' c.kids.length ck) := hw ▸ C5.new w _ _ _ _ _ _
  have b0 : Below w.heap.size w w0 := hw ▸ (Below.refl _ w).alloc (Nat.le_refl _) _
  have s0 : w0.heap.size = w.heap.size + 1 := by rw [← hw]; simp
  rw [hw] at hD
  have Q0 := Lib.hid q0
  have B0 := Lib.hid b0
  have S0 := Lib.hid s0
  clear hw q0 b0 s0
  go_wp2_with fail
  refine (aroom b most M F _ ⟨n, vc, vf, fr, H, hD⟩).mono ?_
  rintro e w0' ⟨rfl, k', hw⟩
  have q0 : C5 w0' w.heap.size 170 (.int .u32 c.owner) (.int .u32 c.a) (.int .u32 c.b) (.slice A c.vals.length cv) (.slice A' c.kids.length ck) := hw ▸ Q0.out
  have b0' : Below w0.heap.size w0 w0' := hw ▸ below_drewN w0 k'
  have s0 : w0'.heap.size = w.heap.size + 1 := by rw [hw]; exact S0.out
  have hD0 := hD.kp (Kp.of_below b0' (fun _ => False)) (fun _ _ => id)
  have b0 : Below w.heap.size w w0' := B0.out.trans (b0'.mono (by rw [S0.out]; omega))
  clear hD hw b0' Q0 B0 S0
  go_wp2_with fail
  refine (unused _ hD0 hlt).mono ?_
  rintro e w1 ⟨i, n1, vc1, vf1, fr1, rfl, hD1, i1, i2, i3, i4, hK1⟩
  have hF1 : ∀ k, F k → k < w.heap.size := fun k hk => HH.out.lt hk
  have q1 := q0.kp hK1 (fun f => by have := hF1 _ f; omega)
  have k1 : Kp F w w1 := (Kp.of_below b0 F).trans hK1 (fun _ => .inl)
  have hv1 : Rd w1.drew _ _ _ := k1.rd HV.out fv
  have hk1 : Rd w1.drew (.slice A' c.kids.length ck) (ns c.kids).length (nums (ns c.kids)) := by rw [ns_length]; exact k1.rd HK.out fk
  obtain ⟨j, rfl⟩ : ∃ j, i = j + 1 := ⟨i - 1, by omega⟩
  obtain ⟨gc, cc, rfl, _, hx, hfz⟩ := own_at hD1.cs (places_at (M := M) (H := H) (n := n1) (j := j) (by omega))
  rw [i3] at hx
  have c2 := hD1.row.c2
  obtain ⟨d0, d1, d2, d3, d4, _⟩ := q1.all
  go_wp2_with fail
  have nk' : (ns c.kids).length ≤ 4194304 := by rw [ns_length]; exact nk
  have hbl := World.block_lt_of_cell? w1 _ c2
  have hgl := World.block_lt_of_cell? w1 _ hx
  have HV1 := Lib.hid hv1
  have HK1 := Lib.hid hk1
  have HD1 := Lib.hid hD1
  have KP1 := Lib.hid k1
  have Q1 := Lib.hid q1
  clear hv1 hk1 hD1 k1 q0 q1 b0 hD0 hK1
  have hjn : n1 ≤ 1048576 := by have := HD1.out.le; omega
  have y1 : IntKind.i64.wrap ((j : Int) + 1 - 1) = (j : Int) := by rw [IntWalk.i64_in _ (by omega)]; omega
  have y5 : IntKind.i64.wrap (j : Int) = (j : Int) := IntWalk.i64_in _ (by omega)
  have y2 : (0 : Int) ≤ (j : Int) := by omega
  have y3 : (j : Int) < (n1 : Int) := by omega
  have y4 : j < n1 := by omega
  go_region_with (go_at_call 150; refine (apart c.owner c.a c.b _ _ c.vals (ns c.kids) _ HV1.out HK1.out nv nk').mono ?_; rintro e w2 ⟨v2, k2, rfl, ho1, ho2, hb2⟩; obtain ⟨X1, m1, rfl, _⟩ := (Rd.of_own ho1).form; obtain ⟨X2, m2, rfl, _⟩ := (Rd.of_own ho2).form; have c22 := (hb2.cell (p := ⟨b, 2, none⟩) hbl).trans c2; have hx2 := (hb2.cell (p := ⟨gc, j, none⟩) hgl).trans hx; have hfz2 := (hb2.frozen (p := ⟨gc, j, none⟩) hgl).trans hfz; have hg2 : gc < w2.heap.size := Nat.lt_of_lt_of_le hgl hb2.size; have hbb2 : b < w2.heap.size := Nat.lt_of_lt_of_le hbl hb2.size; have O1 := Lib.hid ho1; have O2 := Lib.hid ho2; have B2 := Lib.hid hb2; clear ho1 ho2 hb2)
  all_goals
    have hB : Below w1.heap.size w1 w2 := ⟨B2.out.os, B2.out.tape, B2.out.output, B2.out.size, B2.out.block⟩
    have hbg : b ≠ gc := by
      obtain ⟨cur, hgc⟩ := own_type HD1.out.cs gc rfl
      exact ne_types HD1.out.row hgc (by decide)
    have r3 := ((HD1.out.row.below hB).other hbg (o := j) (.pointer (some ⟨w2.heap.size, 0, none⟩))).alloc (.cells #[.int .u32 c.owner, .int .u32 c.a, .int .u32 c.b, .slice X1 c.vals.length m1, .slice X2 (ns c.kids).length m2, .int .i64 1] 172)
    have o2 : w2.ownsRow w1.heap.size 3 1 (.slice X2 (ns c.kids).length m2) c.kids.length (nums (ns c.kids)) := cast (by rw [ns_length]; rfl) O2.out
    have R3 := Lib.hid r3
    have OO := Lib.hid o2
    have BB := Lib.hid hB
    clear hB hbg r3 o2 c2 c22 hx hx2 hfz hfz2 d0 d1 d2 d3 d4 y1 y5
    go_wp2_with (go_at_call 101; refine (add64 ⟨b, 1, none⟩ _ 1 _ R3.out.c1 (R3.out.fz 1) (by omega) (by omega)).mono ?_; rintro e w4 ⟨rfl, hw4⟩; have HW := Lib.hid hw4; clear hw4)
    go_ret2
    have hF0 : ∀ x, F x → Fn F w0' w1 x := fun _ => .inl
    have hF1' : ∀ x, Fn F w0' w1 x → F x ∨ w.heap.size ≤ x := fun x hx => by
      rcases hx with hx | hx
      · exact .inl hx
      · exact .inr (by omega)
    obtain ⟨ha, hk⟩ := HD1.out.made (w := w) hF1' hF0 KP1.out y4 i3 i4 BB.out c _ _ O1.out OO.out nv nk w4 HW.out
    exact ⟨j + 1, rfl, by omega, Nat.le_trans i2 HD1.out.le, i3, ha, hk⟩

theorem make_bad (o a' b' : Int) (v k : Value) (ks : List Int) (b most : Nat) (M : Cells) (F : Nat → Prop) (w : World) (h : Ar w b most M F) (hk : Rd w k ks.length (nums ks)) (nk : ks.length ≤ 4194304) (hg : ks.all (goodB M) = false) :
    Calls Tryz.prog 117 #[ap b, cagg o a' b' v k] w fun e w' => e = .returned (.tuple #[.int .i64 0, .int .i64 1]) ∧ Below w.heap.size w w' := by
  obtain ⟨A', ck, rfl, _⟩ := hk.form
  obtain ⟨n, vc, vf, fr, H, hD⟩ := h.alloc (.cells #[.int .u32 o, .int .u32 a', .int .u32 b', v, .slice A' ks.length ck] 170)
  have HK := Lib.hid hk
  clear h hk
  go_enter Tryz.func117, Tryz.ntmps117
  go_wp2_with fail
  refine (allHeld _ ks _ hD (HK.out.alloc _) nk).mono ?_
  rintro e w0 ⟨rfl, rfl⟩
  rw [hg]
  go_wp2_with fail
  go_ret2
  exact ⟨rfl, (Below.refl _ w).alloc (Nat.le_refl _) _⟩
theorem make_full (o a' b' : Int) (v k : Value) (ks : List Int) (b most : Nat) (M : Cells) (F : Nat → Prop) (w : World) (h : Ar w b most M F) (hk : Rd w k ks.length (nums ks)) (nk : ks.length ≤ 4194304) (hg : ks.all (goodB M) = true) (hl : live (most + 1) M = most) :
    Calls Tryz.prog 117 #[ap b, cagg o a' b' v k] w fun e w' => e = .returned (.tuple #[.int .i64 0, .int .i64 5]) ∧ Below w.heap.size w w' := by
  obtain ⟨A', ck, rfl, _⟩ := hk.form
  have h1 := h.alloc (.cells #[.int .u32 o, .int .u32 a', .int .u32 b', v, .slice A' ks.length ck] 170)
  have HK := Lib.hid hk
  have HH := Lib.hid h1
  obtain ⟨n, vc, vf, fr, H, hD⟩ := h1
  have HL := Lib.hid hl
  clear h hk hl
  go_enter Tryz.func117, Tryz.ntmps117
  go_wp2_with fail
  refine (allHeld _ ks _ hD (HK.out.alloc _) nk).mono ?_
  rintro e w0 ⟨rfl, rfl⟩
  rw [hg]
  go_wp2_with fail
  refine (aroom b most M F _ HH.out).mono ?_
  rintro e w0' ⟨rfl, k', rfl⟩
  rw [HL.out, Int.sub_self]
  go_wp2_with fail
  go_ret2
  exact ⟨rfl, ((Below.refl _ w).alloc (Nat.le_refl _) _).trans ((below_drewN _ _).mono (by simp))⟩
theorem make_nil (c : Value) (o a' b' : Int) (v k : Value) (hc : c = cagg o a' b' v k) (w : World) :
    Calls Tryz.prog 117 #[.pointer none, c] w fun e w' => e = .returned (.tuple #[.int .i64 0, .int .i64 1]) ∧ Below w.heap.size w w' := by
  subst hc
  go_enter Tryz.func117, Tryz.ntmps117
  go_wp2_with fail
  go_ret2
  exact ⟨rfl, (Below.refl _ w).alloc (Nat.le_refl _) _⟩

end Go.Proofs.YtacoingheieceaaGreat

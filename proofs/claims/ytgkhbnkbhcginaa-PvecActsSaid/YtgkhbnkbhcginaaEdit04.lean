/- Package arena: Edit; Drop of no cell; no arena. -/
import Derived.Test.YtgkhbnkbhcginaaDrop04
namespace Go.Proofs.Ytgkhbnkbhcginaa
open Go.RowKit

theorem adrop_no (i : Int) (b most : Nat) (M : Cells) (F : Nat → Prop) (w : World) (h : Ar w b most M F) (hn : 1 ≤ i → M i.toNat = none) :
    Calls Try.prog 55 #[ap b, .int .i64 i] w fun e w' => e = .returned (.int .i64 4) ∧ w = w' := by
  obtain ⟨n, vc, vf, fr, H, h⟩ := h
  have hf := fptr_none M H hn
  go_enter Try.func55, Try.ntmps55
  go_wp2_with (go_at_call 71; refine (find _ _ h).mono ?_; rintro e w' ⟨rfl, rfl⟩; rw [hf])
  go_ret
  exact ⟨rfl, rfl⟩
theorem adrop_nil (i : Int) (w : World) : Calls Try.prog 55 #[.pointer none, .int .i64 i] w fun e w' => e = .returned (.int .i64 4) ∧ w = w' := by
  go_enter Try.func55, Try.ntmps55
  go_wp2_with (go_at_call 71; refine (find_no _ _).mono ?_; rintro e w' ⟨rfl, rfl⟩)
  go_ret
  exact ⟨rfl, rfl⟩

theorem aedit_no (i ow o a' b' : Int) (v k : Value) (b most : Nat) (M : Cells) (F : Nat → Prop) (w : World) (h : Ar w b most M F) (hn : 1 ≤ i → M i.toNat = none) :
    Calls Try.prog 69 #[ap b, .int .i64 i, .int .u32 ow, cagg o a' b' v k] w fun e w' => e = .returned (.int .i64 4) ∧ Below w.heap.size w w' := by
  obtain ⟨n, vc, vf, fr, H, h⟩ := h.alloc (.cells #[.int .u32 o, .int .u32 a', .int .u32 b', v, k] 59)
  have hf := fptr_none M H hn
  go_enter Try.func69, Try.ntmps69
  go_wp2_with (go_at_call 71; refine (find _ _ h).mono ?_; rintro e w' ⟨rfl, rfl⟩; rw [hf])
  go_ret
  exact ⟨rfl, (Below.refl _ w).alloc (Nat.le_refl _) _⟩
theorem aedit_nil (i ow o a' b' : Int) (v k : Value) (w : World) :
    Calls Try.prog 69 #[.pointer none, .int .i64 i, .int .u32 ow, cagg o a' b' v k] w fun e w' => e = .returned (.int .i64 4) ∧ Below w.heap.size w w' := by
  go_enter Try.func69, Try.ntmps69
  go_wp2_with (go_at_call 71; refine (find_no _ _).mono ?_; rintro e w' ⟨rfl, rfl⟩)
  go_ret
  exact ⟨rfl, (Below.refl _ w).alloc (Nat.le_refl _) _⟩

set_option maxRecDepth 100000 in
set_option maxHeartbeats 1600000 in
theorem aedit_state (i r : Nat) (ow o a' b' : Int) (v k : Value) (b most : Nat) (M : Cells) (F : Nat → Prop) (c : Hc) (w : World) (h : Ar w b most M F) (hi : M i = some (c, r)) (hst : ow = 0 ∨ ow ≠ c.owner ∨ 1 < r) :
    Calls Try.prog 69 #[ap b, .int .i64 i, .int .u32 ow, cagg o a' b' v k] w fun e w' => e = .returned (.int .i64 14) ∧ Below w.heap.size w w' := by
  obtain ⟨n, vc, vf, fr, H, h⟩ := h.alloc (.cells #[.int .u32 o, .int .u32 a', .int .u32 b', v, k] 59)
  obtain ⟨h1, _, _, v', k', r6, _⟩ := h.cel i c r hi
  have hf := fptr_some M H h1 hi
  have c0 := r6.c0
  have c5 := r6.c5
  clear r6
  by_cases e1 : ow = 0
  · subst e1
    clear hst
    go_enter Try.func69, Try.ntmps69
    go_wp2_with (go_at_call 71; refine (find _ _ h).mono ?_; rintro e w' ⟨rfl, rfl⟩; rw [hf])
    go_ret
    exact ⟨rfl, (Below.refl _ w).alloc (Nat.le_refl _) _⟩
  · by_cases e2 : ow = c.owner
    · have hr : (1 : Int) < r := by
        rcases hst with e | e | e
        · exact absurd e e1
        · exact absurd e2 e
        · omega
      have e3 : ¬ c.owner = 0 := e2 ▸ e1
      subst e2
      clear hst e1
      go_enter Try.func69, Try.ntmps69
      go_wp2_with (go_at_call 71; refine (find _ _ h).mono ?_; rintro e w' ⟨rfl, rfl⟩; rw [hf])
      go_ret
      exact ⟨rfl, (Below.refl _ w).alloc (Nat.le_refl _) _⟩
    · clear hst
      go_enter Try.func69, Try.ntmps69
      go_wp2_with (go_at_call 71; refine (find _ _ h).mono ?_; rintro e w' ⟨rfl, rfl⟩; rw [hf])
      go_ret
      exact ⟨rfl, (Below.refl _ w).alloc (Nat.le_refl _) _⟩

set_option maxRecDepth 100000 in
set_option maxHeartbeats 4000000 in
theorem aedit (i : Nat) (c c0 : Hc) (v k : Value) (b most : Nat) (M : Cells) (F : Nat → Prop) (w : World) (h : Ar w b most M F) (hi : M i = some (c0, 1)) (ho : ¬ c0.owner = 0) (hv : Rd w v c.vals.length (c.vals.flatMap cells3)) (hk : Rd w k c.kids.length (nums (ns c.kids)))
    (nv : c.vals.length ≤ 4194304) (nk : c.kids.length ≤ 4194304) (hg : (ns c.kids).all (goodB M) = true) :
    Calls Try.prog 69 #[ap b, .int .i64 i, .int .u32 c0.owner, cagg c.owner c.a c.b v k] w fun e w' => e = .returned (.int .i64 0) ∧ Ar w' b most (upd M i (some ({ c with owner := c0.owner }, 1))) (Fn F w w') ∧ Kp F w w' := by
  obtain ⟨A, cv, rfl, _⟩ := hv.form
  obtain ⟨A', ck, rfl, _⟩ := hk.form
  have HH := Lib.hid h
  have HV := Lib.hid hv
  have HK := Lib.hid hk
  obtain ⟨n, vc, vf, fr, H, hD⟩ := h.alloc (.cells #[.int .u32 c.owner, .int .u32 c.a, .int .u32 c.b, .slice A c.vals.length cv, .slice A' c.kids.length ck] 59)
  obtain ⟨h1, _, _, v', k', r6, _⟩ := hD.cel i c0 1 hi
  have hf := fptr_some M H h1 hi
  have x0 := r6.c0
  have x5 := r6.c5
  have HI := Lib.hid hi
  clear r6 hv hk h hi
  go_enter Try.func69, Try.ntmps69
  go_wp2_with (first | (go_at_call 71; refine (find _ _ hD).mono ?_; rintro e w' ⟨rfl, rfl⟩; rw [hf]) | (go_at_call 57; refine (allHeld _ (ns c.kids) _ hD (by rw [ns_length]; exact HK.out.alloc _) (by rw [ns_length]; exact nk)).mono ?_; rintro e w0 ⟨rfl, rfl⟩; rw [hg]))
  refine (apart c.owner c.a c.b _ _ c.vals (ns c.kids) _ (HV.out.alloc _) (by rw [ns_length]; exact HK.out.alloc _) nv (by rw [ns_length]; exact nk)).mono ?_
  rintro e w2 ⟨v2, k2, rfl, o1, o2, hb2⟩
  rw [ns_length] at o2
  obtain ⟨X1, m1, rfl, _⟩ := (Rd.of_own o1).form
  obtain ⟨X2, m2, rfl, _⟩ := (Rd.of_own o2).form
  have hb1 : Below w.heap.size w w2 := ((Below.refl _ w).alloc (Nat.le_refl _) _).trans (hb2.mono (by simp))
  have hD2 := hD.kp (Kp.of_below hb2 (fun _ => False)) (fun _ _ => id)
  have hsz : (w.alloc (.cells #[.int .u32 c.owner, .int .u32 c.a, .int .u32 c.b, .slice A c.vals.length cv, .slice A' c.kids.length ck] 59)).heap.size = w.heap.size + 1 := by simp
  have q5 := (C5.new w 59 (.int .u32 c.owner) (.int .u32 c.a) (.int .u32 c.b) (.slice A c.vals.length cv) (.slice A' c.kids.length ck)).below hb2
  have hvf : ∀ g, vf.ownBlock = some g → g < w.heap.size + 1 := fun g hg => by have := (hD.fs.lt g hg).2; rw [hsz] at this; exact this
  obtain ⟨_, _, _, v', k', r6, _, _, hFi, _⟩ := hD2.cel i c0 1 HI.out
  have hHi : H i < w.heap.size := HH.out.lt hFi
  rw [hsz] at o1 o2
  clear x0 x5 hD hb2 hsz
  obtain ⟨x0, x1, x2, x3, x4, x5, f0, f1, f2, f3, f4, f5⟩ := r6.all
  obtain ⟨y0, y1, y2, y3, y4, _⟩ := q5.all
  have R6 := Lib.hid r6
  have O1 := Lib.hid o1
  have O2 := Lib.hid o2
  have B1 := Lib.hid hb1
  have D2 := Lib.hid hD2
  have HVF := Lib.hid hvf
  have HFI := Lib.hid hFi
  clear r6 o1 o2 hb1 hD2 hvf hFi q5
  go_wp2_with fail
  go_ret
  have r := ((((((R6.out.set0 (.int .u32 c.owner)).set1 (.int .u32 c.a)).set2 (.int .u32 c.b)).set3 (.slice X1 c.vals.length m1)).set4 (.slice X2 c.kids.length m2)).set0 (.int .u32 c0.owner))
  have hk6 : Kp (fun g => g = H i) w2 ((((((w2.setCell ⟨H i, 0, none⟩ (.int .u32 c.owner)).setCell ⟨H i, 1, none⟩ (.int .u32 c.a)).setCell ⟨H i, 2, none⟩ (.int .u32 c.b)).setCell ⟨H i, 3, none⟩ (.slice X1 c.vals.length m1)).setCell ⟨H i, 4, none⟩ (.slice X2 c.kids.length m2)).setCell ⟨H i, 0, none⟩ (.int .u32 c0.owner)) :=
    ((((((Kp.refl (fun g => g = H i) w2).setCell (.inl rfl) _).setCell (.inl rfl) _).setCell (.inl rfl) _).setCell (.inl rfl) _).setCell (.inl rfl) _).setCell (.inl rfl) _
  have hsz2 : ((((((w2.setCell ⟨H i, 0, none⟩ (.int .u32 c.owner)).setCell ⟨H i, 1, none⟩ (.int .u32 c.a)).setCell ⟨H i, 2, none⟩ (.int .u32 c.b)).setCell ⟨H i, 3, none⟩ (.slice X1 c.vals.length m1)).setCell ⟨H i, 4, none⟩ (.slice X2 c.kids.length m2)).setCell ⟨H i, 0, none⟩ (.int .u32 c0.owner)).heap.size = w2.heap.size := by simp
  refine ⟨rfl, ⟨n, vc, vf, fr, H, D2.out.put (y := ({ c with owner := c0.owner }, 1)) HI.out hk6 (fun _ => .inl) (Fn.lt (fun g hg => HH.out.lt hg) ?_) ?_ (Nat.le_refl _)⟩, ?_⟩
  · rw [hsz2]; exact B1.out.size
  · have new : ∀ g, w.heap.size + 1 ≤ g → g < w2.heap.size → Fn F w ((((((w2.setCell ⟨H i, 0, none⟩ (.int .u32 c.owner)).setCell ⟨H i, 1, none⟩ (.int .u32 c.a)).setCell ⟨H i, 2, none⟩ (.int .u32 c.b)).setCell ⟨H i, 3, none⟩ (.slice X1 c.vals.length m1)).setCell ⟨H i, 4, none⟩ (.slice X2 c.kids.length m2)).setCell ⟨H i, 0, none⟩ (.int .u32 c0.owner)) g :=
      fun g h1 h2 => .inr ⟨by omega, by rw [hsz2]; exact h2⟩
    refine ⟨_, _, r, own_less (hk6.own O1.out ?_) (Nat.zero_le _), own_less (hk6.own O2.out ?_) (Nat.zero_le _), .inl HFI.out, fun g hg => new g (O1.out.lt g hg).1 (O1.out.lt g hg).2, fun g hg => ⟨new g (O2.out.lt g hg).1 (O2.out.lt g hg).2, fun e => ?_⟩, nv, nk⟩
    · intro g hg e; have := (O1.out.lt g hg).1; omega
    · intro g hg e; have := (O2.out.lt g hg).1; omega
    · have := HVF.out g e; have := (O2.out.lt g hg).1; omega
  · exact (Kp.of_below B1.out F).trans hk6 (fun g e => .inl (e ▸ HFI.out))

end Go.Proofs.Ytgkhbnkbhcginaa

/- Several texts in one. -/
import Derived.Test.YtghbbpbhbinioaaGreatMr04
import Derived.Deep.LoopGhost
import Derived.Test.YtghbbpbhbinioaaGreatMr02
namespace Go.Proofs.YtghbbpbhbinioaaGreat
set_option maxRecDepth 100000
open Go.RowKit

theorem adrop_no (i : Int) (b most : Nat) (M : Cells) (F : Nat → Prop) (w : World) (h : Ar w b most M F) (hn : 1 ≤ i → M i.toNat = none) :
    Calls Tryz.prog 28 #[ap b, .int .i64 i] w fun e w' => e = .returned (.int .i64 4) ∧ w = w' := by
  obtain ⟨n, vc, vf, fr, H, h⟩ := h
  have hf := fptr_none M H hn
  go_enter Tryz.func28, Tryz.ntmps28
  go_wp2_with (go_at_call 59; refine (find _ _ h).mono ?_; rintro e w' ⟨rfl, rfl⟩; rw [hf])
  go_ret
  exact ⟨rfl, rfl⟩
set_option maxRecDepth 100000 in
set_option maxHeartbeats 4000000 in
theorem aedit (i : Nat) (c c0 : Hc) (v k : Value) (b most : Nat) (M : Cells) (F : Nat → Prop) (w : World) (h : Ar w b most M F) (hi : M i = some (c0, 1)) (ho : ¬ c0.owner = 0) (hv : Rd w v c.vals.length (c.vals.flatMap cells3)) (hk : Rd w k c.kids.length (nums (ns c.kids)))
    (nv : c.vals.length ≤ 4194304) (nk : c.kids.length ≤ 4194304) (hg : (ns c.kids).all (goodB M) = true) :
    Calls Tryz.prog 173 #[ap b, .int .i64 i, .int .u32 c0.owner, cagg c.owner c.a c.b v k] w fun e w' => e = .returned (.int .i64 0) ∧ Ar w' b most (upd M i (some ({ c with owner := c0.owner }, 1))) (Fn F w w') ∧ Kp F w w' := by
  obtain ⟨A, cv, rfl, _⟩ := hv.form
  obtain ⟨A', ck, rfl, _⟩ := hk.form
  have HH := Lib.hid h
  have HV := Lib.hid hv
  have HK := Lib.hid hk
  obtain ⟨n, vc, vf, fr, H, hD⟩ := h.alloc (.cells #[.int .u32 c.owner, .int .u32 c.a, .int .u32 c.b, .slice A c.vals.length cv, .slice A' c.kids.length ck] 94)
  obtain ⟨h1, _, _, v', k', r6, _⟩ := hD.cel i c0 1 hi
  have hf := fptr_some M H h1 hi
  have x0 := r6.c0
  have x5 := r6.c5
  have HI := Lib.hid hi
  clear r6 hv hk h hi
  go_enter Tryz.func173, Tryz.ntmps173
  go_wp2_with (first | (go_at_call 59; refine (find _ _ hD).mono ?_; rintro e w' ⟨rfl, rfl⟩; rw [hf]) | (go_at_call 73; refine (allHeld _ (ns c.kids) _ hD (by rw [ns_length]; exact HK.out.alloc _) (by rw [ns_length]; exact nk)).mono ?_; rintro e w0 ⟨rfl, rfl⟩; rw [hg]))
  refine (apart c.owner c.a c.b _ _ c.vals (ns c.kids) _ (HV.out.alloc _) (by rw [ns_length]; exact HK.out.alloc _) nv (by rw [ns_length]; exact nk)).mono ?_
  rintro e w2 ⟨v2, k2, rfl, o1, o2, hb2⟩
  rw [ns_length] at o2
  obtain ⟨X1, m1, rfl, _⟩ := (Rd.of_own o1).form
  obtain ⟨X2, m2, rfl, _⟩ := (Rd.of_own o2).form
  have hb1 : Below w.heap.size w w2 := ((Below.refl _ w).alloc (Nat.le_refl _) _).trans (hb2.mono (by simp))
  have hD2 := hD.kp (Kp.of_below hb2 (fun _ => False)) (fun _ _ => id)
  have hsz : (w.alloc (.cells #[.int .u32 c.owner, .int .u32 c.a, .int .u32 c.b, .slice A c.vals.length cv, .slice A' c.kids.length ck] 94)).heap.size = w.heap.size + 1 := by simp
  have q5 := (C5.new w 94 (.int .u32 c.owner) (.int .u32 c.a) (.int .u32 c.b) (.slice A c.vals.length cv) (.slice A' c.kids.length ck)).below hb2
  have hvf : ∀ g, vf.ownBlock = some g → g < w.heap.size + 1 := fun g hg => by have := (hD.fs.lt g hg).2; rw [hsz] at this; exact this
  obtain ⟨_, _, _, v', k', r6, _, _, hFi, _⟩ := hD2.cel i c0 1 HI.out
  have hHi : H i < w.heap.size := HH.out.lt hFi
  rw [hsz] at o1 o2
  clear x0 x5 hD hb2 hsz
  obtain ⟨x0, x1, x2, x3, x4, x5, f0, f1, f2, f3, f4, f5⟩ := r6.all
  obtain ⟨y0, y1, y2, y3, y4, _⟩ := q5.all
  have R6 := Lib.hid r6
  have O1 := Lib.hid o1
  have O2 := Lib.hid o2
  have B1 := Lib.hid hb1
  have D2 := Lib.hid hD2
  have HVF := Lib.hid hvf
  have HFI := Lib.hid hFi
  clear r6 o1 o2 hb1 hD2 hvf hFi q5
  go_wp2_with fail
  go_ret
  have r := ((((((R6.out.set0 (.int .u32 c.owner)).set1 (.int .u32 c.a)).set2 (.int .u32 c.b)).set3 (.slice X1 c.vals.length m1)).set4 (.slice X2 c.kids.length m2)).set0 (.int .u32 c0.owner))
  have hk6 : Kp (fun g => g = H i) w2 ((((((w2.setCell ⟨H i, 0, none⟩ (.int .u32 c.owner)).setCell ⟨H i, 1, none⟩ (.int .u32 c.a)).setCell ⟨H i, 2, none⟩ (.int .u32 c.b)).setCell ⟨H i, 3, none⟩ (.slice X1 c.vals.length m1)).setCell ⟨H i, 4, none⟩ (.slice X2 c.kids.length m2)).setCell ⟨H i, 0, none⟩ (.int .u32 c0.owner)) :=
    ((((((Kp.refl (fun g => g = H i) w2).setCell (.inl rfl) _).setCell (.inl rfl) _).setCell (.inl rfl) _).setCell (.inl rfl) _).setCell (.inl rfl) _).setCell (.inl rfl) _
  have hsz2 : ((((((w2.setCell ⟨H i, 0, none⟩ (.int .u32 c.owner)).setCell ⟨H i, 1, none⟩ (.int .u32 c.a)).setCell ⟨H i, 2, none⟩ (.int .u32 c.b)).setCell ⟨H i, 3, none⟩ (.slice X1 c.vals.length m1)).setCell ⟨H i, 4, none⟩ (.slice X2 c.kids.length m2)).setCell ⟨H i, 0, none⟩ (.int .u32 c0.owner)).heap.size = w2.heap.size := by simp
  refine ⟨rfl, ⟨n, vc, vf, fr, H, D2.out.put (y := ({ c with owner := c0.owner }, 1)) HI.out hk6 (fun _ => .inl) (Fn.lt (fun g hg => HH.out.lt hg) ?_) ?_ (Nat.le_refl _)⟩, ?_⟩
  · rw [hsz2]; exact B1.out.size
  · have new : ∀ g, w.heap.size + 1 ≤ g → g < w2.heap.size → Fn F w ((((((w2.setCell ⟨H i, 0, none⟩ (.int .u32 c.owner)).setCell ⟨H i, 1, none⟩ (.int .u32 c.a)).setCell ⟨H i, 2, none⟩ (.int .u32 c.b)).setCell ⟨H i, 3, none⟩ (.slice X1 c.vals.length m1)).setCell ⟨H i, 4, none⟩ (.slice X2 c.kids.length m2)).setCell ⟨H i, 0, none⟩ (.int .u32 c0.owner)) g :=
      fun g h1 h2 => .inr ⟨by omega, by rw [hsz2]; exact h2⟩
    refine ⟨_, _, r, own_less (hk6.own O1.out ?_) (Nat.zero_le _), own_less (hk6.own O2.out ?_) (Nat.zero_le _), .inl HFI.out, fun g hg => new g (O1.out.lt g hg).1 (O1.out.lt g hg).2, fun g hg => ⟨new g (O2.out.lt g hg).1 (O2.out.lt g hg).2, fun e => ?_⟩, nv, nk⟩
    · intro g hg e; have := (O1.out.lt g hg).1; omega
    · intro g hg e; have := (O2.out.lt g hg).1; omega
    · have := HVF.out g e; have := (O2.out.lt g hg).1; omega
  · exact (Kp.of_below B1.out F).trans hk6 (fun g e => .inl (e ▸ HFI.out))

end Go.Proofs.YtghbbpbhbinioaaGreat

namespace Go.Proofs.YtghbbpbhbinioaaGreat
set_option maxRecDepth 100000
open Go.RowKit

structure Stp (w w' : World) (b most : Nat) (M' : Cells) (F : Nat → Prop) : Prop where
  ar : Ar w' b most M' (Fn F w w')
  kp : Kp F w w'
section
variable {w w' w'' : World} {b most : Nat} {M M' M'' : Cells} {F : Nat → Prop}
theorem Stp.mk' (h : Ar w' b most M' (Fn F w w') ∧ Kp F w w') : Stp w w' b most M' F := ⟨h.1, h.2⟩
theorem Stp.below (h : Ar w b most M F) (hb : Below w.heap.size w w') : Stp w w' b most M F :=
  ⟨(h.below hb).mono (fun _ => .inl) (Fn.lt (fun _ hk => h.lt hk) hb.size), Kp.of_below hb F⟩
theorem Stp.refl (h : Ar w b most M F) : Stp w w b most M F := Stp.below h (Below.refl _ _)
theorem Stp.trans (h : Stp w w' b most M' F) (k : Stp w' w'' b most M'' (Fn F w w')) : Stp w w'' b most M'' F where
  ar := k.ar.mono (fun g hg => by
    rcases hg with (hg | hg) | hg
    · exact .inl hg
    · exact .inr ⟨hg.1, Nat.lt_of_lt_of_le hg.2 k.kp.size⟩
    · exact .inr ⟨Nat.le_trans h.kp.size hg.1, hg.2⟩) (fun g hg => by
    rcases hg with hg | hg
    · exact Nat.lt_of_lt_of_le (h.ar.lt (.inl hg)) k.kp.size
    · exact hg.2)
  kp := h.kp.trans k.kp (fun g hg => Fn.old hg)
theorem Stp.after (h : Stp w w' b most M' F) (hb : Below w'.heap.size w' w'') : Stp w w'' b most M' F := h.trans (Stp.below h.ar hb)
end

theorem rfi_nat {M : Cells} (h : M 0 = none) (i : Nat) : rfi M (i : Int) = rf (M i) := by
  unfold rfi
  by_cases e : i = 0
  · subst e; rw [if_neg (by omega), h]; rfl
  · rw [if_pos (by omega), Int.toNat_natCast]
theorem Ar.zero {w : World} {b most : Nat} {M : Cells} {F : Nat → Prop} (h : Ar w b most M F) : M 0 = none := by
  obtain ⟨n, vc, vf, fr, H, h⟩ := h
  exact h.zero

def aloneB (M : Cells) (i : Nat) (ow : Int) : Bool := decide (ow ≠ 0) && match M i with
  | some (c, r) => decide (r = 1) && decide (c.owner = ow)
  | none => false
section
variable {b most : Nat} {M : Cells} {F : Nat → Prop}
set_option maxRecDepth 100000 in
set_option maxHeartbeats 800000 in
theorem valone (i : Nat) (ow : Int) (w : World) (h : Ar w b most M F) : Calls Tryz.prog 171 #[ap b, .int .i64 i, .int .u32 ow] w fun e w' => e = .returned (.bool (aloneB M i ow)) ∧ Below w.heap.size w w' := by
  have hz := h.zero
  have hri := rfi_nat hz i
  by_cases h0 : ow = 0
  · subst h0
    have hB := Lib.hid (show aloneB M i 0 = false from rfl)
    clear h hz hri
    go_enter Tryz.func171, Tryz.ntmps171
    go_wp2_with fail
    go_ret
    exact ⟨ret_bool hB.out.symm, Below.refl _ _⟩
  · have h0' : (ow == 0) = false := by simpa using h0
    cases hM : M i with
    | none =>
      have hB := Lib.hid (show aloneB M i ow = false by unfold aloneB; rw [hM]; simp)
      rw [hM] at hri
      have hri' : rfi M (i : Int) = 0 := hri
      have HA := Lib.hid h
      clear h hz hri hM
      go_enter Tryz.func171, Tryz.ntmps171
      go_wp2_with (go_at_call 129; refine (arefs (i : Int) b most M F _ HA.out).mono ?_; rintro e w' ⟨rfl, rfl⟩; rw [hri'])
      go_ret
      exact ⟨ret_bool hB.out.symm, Below.refl _ _⟩
    | some x =>
      obtain ⟨c, r⟩ := x
      rw [hM] at hri
      have hri' : rfi M (i : Int) = r := hri
      have HA := Lib.hid h
      have HM := Lib.hid hM
      clear h hz hri
      by_cases h1 : r = 1
      · subst h1
        by_cases h2 : c.owner = ow
        · have hB := Lib.hid (show aloneB M i ow = true by unfold aloneB; rw [hM]; simp [h0, h2])
          have h2' : (c.owner == ow) = true := by simpa using h2
          clear hM
          go_enter Tryz.func171, Tryz.ntmps171
          go_wp2_with (first | (go_at_call 129; refine (arefs (i : Int) b most M F _ HA.out).mono ?_; rintro e w' ⟨rfl, rfl⟩; rw [hri']) | (go_at_call 100; refine (get i c 1 b most M F _ HA.out HM.out).mono ?_; rintro e w1 ⟨v, k, rfl, o1, o2, hb⟩; obtain ⟨A1, m1, rfl, _⟩ := (Rd.of_own o1).form; obtain ⟨A2, m2, rfl, _⟩ := (Rd.of_own o2).form; have HB := Lib.hid hb; clear o1 o2 hb))
          go_ret
          exact ⟨ret_bool hB.out.symm, HB.out.alloc (HB.out.size) _⟩
        · have hB := Lib.hid (show aloneB M i ow = false by unfold aloneB; rw [hM]; simp [h2])
          have h2' : (c.owner == ow) = false := by simpa using h2
          clear hM
          go_enter Tryz.func171, Tryz.ntmps171
          go_wp2_with (first | (go_at_call 129; refine (arefs (i : Int) b most M F _ HA.out).mono ?_; rintro e w' ⟨rfl, rfl⟩; rw [hri']) | (go_at_call 100; refine (get i c 1 b most M F _ HA.out HM.out).mono ?_; rintro e w1 ⟨v, k, rfl, o1, o2, hb⟩; obtain ⟨A1, m1, rfl, _⟩ := (Rd.of_own o1).form; obtain ⟨A2, m2, rfl, _⟩ := (Rd.of_own o2).form; have HB := Lib.hid hb; clear o1 o2 hb))
          go_ret
          exact ⟨ret_bool hB.out.symm, HB.out.alloc (HB.out.size) _⟩
      · have hB := Lib.hid (show aloneB M i ow = false by unfold aloneB; rw [hM]; simp [h1])
        have h1' : ¬ (r : Int) = 1 := by omega
        clear hM
        go_enter Tryz.func171, Tryz.ntmps171
        go_wp2_with (go_at_call 129; refine (arefs (i : Int) b most M F _ HA.out).mono ?_; rintro e w' ⟨rfl, rfl⟩; rw [hri'])
        go_ret
        exact ⟨ret_bool hB.out.symm, Below.refl _ _⟩

def freshN (M : Cells) (ow : Int) : List Nat → Nat
  | [] => 0
  | i :: l => if aloneB M i ow then freshN M ow l else l.length + 1
theorem freshN_le (M : Cells) (ow : Int) : ∀ l, freshN M ow l ≤ l.length
  | [] => Nat.le_refl _
  | i :: l => by
    unfold freshN
    split
    · exact Nat.le_succ_of_le (freshN_le M ow l)
    · exact Nat.le_refl _
set_option maxRecDepth 100000 in
set_option maxHeartbeats 800000 in
theorem vfresh (ow : Int) (ks : List Nat) (v : Value) (w : World) (h : Ar w b most M F) (hv : Rd w v ks.length (nums (ns ks))) (hl : ks.length ≤ 4194304) :
    Calls Tryz.prog 143 #[ap b, .int .u32 ow, v] w fun e w' => e = .returned (.int .i64 (freshN M ow ks)) ∧ Below w.heap.size w w' := by
  obtain ⟨A, c, rfl, hc⟩ := hv.form
  have HA := Lib.hid h
  have HV := Lib.hid hv
  clear h hv
  go_enter Tryz.func143, Tryz.ntmps143
  go_wp2_with fail
  go_loopg [11] ks.length (fun c' i wr => ∃ j : Nat, j + c' = ks.length ∧ i = .int .i64 j ∧ freshN M ow ks = freshN M ow (ks.drop j) ∧ Below w.heap.size w wr)
  case atStart => exact ⟨0, by omega, rfl, rfl, Below.refl _ _⟩
  case round =>
    obtain ⟨j, hj, rfl, hf, hb⟩ := hrel
    by_cases h1 : j < ks.length
    · obtain ⟨x, hx⟩ : ∃ x, ks[j]? = some x := ⟨_, List.getElem?_eq_getElem h1⟩
      obtain ⟨g, o, c', e, _, hcell⟩ := (HV.out.below hb).at (j := j) (u := .int .i64 (x : Int)) (by rw [nums_at]; unfold ns; rw [List.getElem?_map, hx]; rfl)
      injection e with e1 e2 e3
      subst e1 e3
      have hd : ks.drop j = x :: ks.drop (j + 1) := by
        rw [List.drop_eq_getElem_cons h1]
        congr 1
        have := List.getElem?_eq_getElem h1
        rw [hx] at this
        exact (Option.some.inj this).symm
      have HD := Lib.hid hd
      have HF := Lib.hid hf
      have HB := Lib.hid hb
      clear hd hf hb hx
      cases hal : aloneB M x ow
      · have hres := Lib.hid (show (freshN M ow ks : Int) = (ks.length : Int) - (j : Int) by
          rw [HF.out, HD.out]
          show ((if aloneB M x ow = true then freshN M ow (ks.drop (j + 1)) else (ks.drop (j + 1)).length + 1 : Nat) : Int) = _
          rw [if_neg (by rw [hal]; simp), List.length_drop]
          omega)
        go_wp2_with (go_at_call 171; refine (valone x ow _ (HA.out.below HB.out)).mono ?_; rintro e w1 ⟨rfl, hb1⟩; rw [hal]; have HB1 := Lib.hid (HB.out.trans (hb1.mono HB.out.size)); clear hb1)
        go_ret
        exact ⟨ret_int (by rw [hres.out]), HB1.out⟩
      · have hres := Lib.hid (show freshN M ow ks = freshN M ow (ks.drop (j + 1)) by
          rw [HF.out, HD.out]
          show (if aloneB M x ow = true then freshN M ow (ks.drop (j + 1)) else (ks.drop (j + 1)).length + 1 : Nat) = _
          rw [if_pos hal])
        go_wp2_with (go_at_call 171; refine (valone x ow _ (HA.out.below HB.out)).mono ?_; rintro e w1 ⟨rfl, hb1⟩; rw [hal]; have HB1 := Lib.hid (HB.out.trans (hb1.mono HB.out.size)); clear hb1)
        go_roundg (ks.length - (j + 1))
        case measure => omega
        case rel => exact ⟨j + 1, by omega, by go_num, hres.out, HB1.out⟩
    · obtain rfl : j = ks.length := by omega
      have hres := Lib.hid (show (freshN M ow ks : Int) = 0 by rw [hf, List.drop_length]; rfl)
      have HB := Lib.hid hb
      clear hf hb
      go_wp2_with fail
      go_ret
      exact ⟨ret_int hres.out.symm, HB.out⟩

def keepC (M : Cells) (i : Nat) : Cells := match M i with
  | some (c, r) => upd M i (some (c, r + 1))
  | none => M
theorem vkeep1 (i : Nat) (w : World) (h : Ar w b most M F) (hr : rf (M i) ≤ 4611686018427387904) : Calls Tryz.prog 63 #[ap b, .int .i64 i] w fun e w' => (∃ z, e = .returned (.int .i64 z)) ∧ Stp w w' b most (keepC M i) F := by
  cases hM : M i with
  | none =>
    refine (akeep_no (i : Int) b most M F w h (fun _ => by simpa using hM)).mono ?_
    rintro e w' ⟨rfl, rfl⟩
    exact ⟨⟨4, rfl⟩, by unfold keepC; rw [hM]; exact Stp.refl h⟩
  | some x =>
    obtain ⟨c, r⟩ := x
    rw [hM] at hr
    refine (akeep i c r b most M F w h hM hr).mono ?_
    rintro e w' ⟨rfl, ha, hk⟩
    exact ⟨⟨0, rfl⟩, by unfold keepC; rw [hM]; exact ⟨ha, hk⟩⟩
theorem vdrop1 (i : Nat) (w : World) (h : Ar w b most M F) (hr : ∀ j, rf (M j) ≤ 4611686018427387904) : Calls Tryz.prog 28 #[ap b, .int .i64 i] w fun e w' => (∃ z, e = .returned (.int .i64 z)) ∧ ∃ M', Drops M [i] M' ∧ Stp w w' b most M' F := by
  by_cases hM : M i = none
  · refine (adrop_no (i : Int) b most M F w h (fun _ => by simpa using hM)).mono ?_
    rintro e w' ⟨rfl, rfl⟩
    refine ⟨⟨4, rfl⟩, M, ?_, Stp.refl h⟩
    have : release M i = (M, []) := by unfold release; rw [hM]
    exact Drops.step (t := []) (by rw [this]; exact Drops.done M)
  · refine (adrop i b most M F w h hM hr).mono ?_
    rintro e w' ⟨rfl, M', hd, ha, hk⟩
    exact ⟨⟨0, rfl⟩, M', hd, ha, hk⟩
end

end Go.Proofs.YtghbbpbhbinioaaGreat

namespace Go.Proofs.YtghbbpbhbinioaaGreat
set_option maxRecDepth 100000
open Go.RowKit

def contC (M : Cells) (i : Nat) : Hc := match M i with
  | some (c, _) => c
  | none => ⟨0, 0, 0, [], []⟩
def keepAll (M : Cells) : List Nat → Cells
  | [] => M
  | i :: l => keepAll (keepC M i) l
def Renewed (M : Cells) (i : Nat) (ow : Int) (c : Hc) (most n : Nat) (M' : Cells) : Prop :=
  if aloneB M i ow = true then n = i ∧ M' = upd M i (some ({ c with owner := ow }, 1))
  else 1 ≤ n ∧ n ≤ most ∧ M n = none ∧ Drops (upd (keepAll M (contC M i).kids) n (some ({ c with owner := ow }, 1))) [i] M'

theorem keepC_rf {M : Cells} {i j : Nat} : rf (keepC M i j) ≤ rf (M j) + 1 := by
  unfold keepC
  cases hM : M i with
  | none => simp
  | some x =>
    by_cases e : j = i
    · subst e; show rf (upd M j (some (x.1, x.2 + 1)) j) ≤ _; rw [upd_same, hM]; exact Nat.le_refl _
    · show rf (upd M i (some (x.1, x.2 + 1)) j) ≤ _
      rw [upd_other _ _ e]; omega
theorem keepC_none {M : Cells} {i j : Nat} : keepC M i j = none ↔ M j = none := by
  unfold keepC
  cases hM : M i with
  | none => exact Iff.rfl
  | some x =>
    by_cases e : j = i
    · subst e; show upd M j (some (x.1, x.2 + 1)) j = none ↔ _; rw [upd_same, hM]; simp
    · show upd M i (some (x.1, x.2 + 1)) j = none ↔ _; rw [upd_other _ _ e]
theorem keepAll_none {j : Nat} : ∀ {l : List Nat} {M : Cells}, keepAll M l j = none ↔ M j = none
  | [], _ => Iff.rfl
  | i :: l, M => by show keepAll (keepC M i) l j = none ↔ _; rw [keepAll_none, keepC_none]
theorem keepAll_rf {j : Nat} : ∀ {l : List Nat} {M : Cells}, rf (keepAll M l j) ≤ rf (M j) + l.length
  | [], _ => Nat.le_refl _
  | i :: l, M => by
    show rf (keepAll (keepC M i) l j) ≤ _
    have h1 := keepAll_rf (j := j) (l := l) (M := keepC M i)
    have h2 := keepC_rf (M := M) (i := i) (j := j)
    simp only [List.length_cons]
    omega
theorem keepC_live {N : Nat} {M : Cells} {i : Nat} : live N (keepC M i) = live N M := by
  unfold live
  refine sumTo_congr N fun j _ => ?_
  cases e : keepC M i j with
  | none => rw [keepC_none.1 e]
  | some x =>
    cases e' : M j with
    | none => rw [keepC_none.2 e'] at e; cases e
    | some y => rfl
theorem keepAll_live {N : Nat} : ∀ {l : List Nat} {M : Cells}, live N (keepAll M l) = live N M
  | [], _ => rfl
  | i :: l, M => by show live N (keepAll (keepC M i) l) = _; rw [keepAll_live, keepC_live]
theorem keepAll_snoc (M : Cells) (i : Nat) : ∀ l, keepAll M (l ++ [i]) = keepC (keepAll M l) i := by
  intro l
  induction l generalizing M with
  | nil => rfl
  | cons j l ih => exact ih (keepC M j)

theorem aeditO (i : Nat) (o o' : Int) (c c0 c1 : Hc) (v k : Value) (b most : Nat) (M : Cells) (F : Nat → Prop) (w : World) (h : Ar w b most M F) (hi : M i = some (c0, 1)) (he : o = c0.owner) (ho : ¬ o = 0) (hc : { c with owner := o } = c1) (hv : Rd w v c.vals.length (c.vals.flatMap cells3)) (hk : Rd w k c.kids.length (nums (ns c.kids)))
    (nv : c.vals.length ≤ 4194304) (nk : c.kids.length ≤ 4194304) (hg : (ns c.kids).all (goodB M) = true) :
    Calls Tryz.prog 173 #[ap b, .int .i64 i, .int .u32 o, cagg o' c.a c.b v k] w fun e w' => e = .returned (.int .i64 0) ∧ Ar w' b most (upd M i (some (c1, 1))) (Fn F w w') ∧ Kp F w w' := by
  subst he hc
  exact aedit i { c with owner := o' } c0 v k b most M F w h hi ho hv hk nv nk hg

section
variable {b most : Nat} {M : Cells} {F : Nat → Prop}
theorem vget (i : Nat) (w : World) (h : Ar w b most M F) : Calls Tryz.prog 100 #[ap b, .int .i64 i] w fun e w' => ∃ v k, e = .returned (.tuple #[cagg (contC M i).owner (contC M i).a (contC M i).b v k, .bool (M i).isSome]) ∧
    w'.ownsRow w.heap.size 36 3 v (contC M i).vals.length ((contC M i).vals.flatMap cells3) ∧ w'.ownsRow w.heap.size 3 1 k (contC M i).kids.length (nums (ns (contC M i).kids)) ∧ Below w.heap.size w w' := by
  cases hM : M i with
  | none =>
    refine (get_no (i : Int) b most M F w h (fun _ => by simpa using hM)).mono ?_
    rintro e w' ⟨rfl, hb⟩
    unfold contC
    rw [hM]
    exact ⟨_, _, rfl, World.ownsRow_nil _ _ _ _, World.ownsRow_nil _ _ _ _, hb⟩
  | some x =>
    refine (get i x.1 x.2 b most M F w h hM).mono ?_
    rintro e w' ⟨v, k, rfl, o1, o2, hb⟩
    unfold contC
    rw [hM]
    exact ⟨v, k, rfl, o1, o2, hb⟩

structure Kept (w2 wr : World) (b most : Nat) (M : Cells) (F : Nat → Prop) (B z1 : Nat) (c : Hc) (v k : Value) (j : Nat) : Prop where
  st : Stp w2 wr b most (keepAll M (c.kids.take j)) F
  c5 : C5 wr z1 94 (.int .u32 c.owner) (.int .u32 c.a) (.int .u32 c.b) v k
  o1 : wr.ownsRow B 36 3 v c.vals.length (c.vals.flatMap cells3)
  o2 : wr.ownsRow B 3 1 k c.kids.length (nums (ns c.kids))

end

end Go.Proofs.YtghbbpbhbinioaaGreat

namespace Go.Proofs.YtghbbpbhbinioaaGreat
set_option maxRecDepth 100000

def blank (M : Cells) (H : List Nat) : Cells := fun j => if j ∈ H then (M j).map (fun x => ({ x.1 with kids := [] }, x.2)) else M j
section
variable {M M' : Cells} {H : List Nat} {i j N : Nat} {c : Hc} {r : Nat}
theorem blank_nil (M : Cells) : blank M [] = M := by funext j; simp [blank]
theorem blank_in (h : j ∈ H) (e : M j = some (c, r)) : blank M H j = some ({ c with kids := [] }, r) := by simp [blank, h, e]
theorem blank_out (h : j ∉ H) : blank M H j = M j := by simp [blank, h]
theorem blank_none : blank M H j = none ↔ M j = none := by
  unfold blank
  split
  · rw [Option.map_eq_none_iff]
  · exact Iff.rfl
theorem blank_rf : rf (blank M H j) = rf (M j) := by
  unfold blank
  split
  · cases M j <;> rfl
  · rfl
theorem blank_upd (h : i ∉ H) (z : Option (Hc × Nat)) : blank (upd M i z) H = upd (blank M H) i z := by
  funext j
  by_cases e : j = i
  · subst e; rw [upd_same, blank_out h, upd_same]
  · rw [upd_other _ _ e]
    unfold blank
    rw [upd_other _ _ e]
theorem blank_cons (hi : M i = some (c, r)) : blank M (i :: H) = upd (blank M H) i (some ({ c with kids := [] }, r)) := by
  funext j
  by_cases e : j = i
  · subst e; rw [upd_same, blank_in (by simp) hi]
  · rw [upd_other _ _ e]
    unfold blank
    simp [e]
theorem blank_fill (h : i ∉ H) (z : Option (Hc × Nat)) : blank (upd M i z) H = upd (blank M (i :: H)) i z := by
  rw [blank_upd h]
  funext j
  by_cases e : j = i
  · subst e; rw [upd_same, upd_same]
  · rw [upd_other _ _ e, upd_other _ _ e]
    unfold blank
    simp [e]
end

def addP (P : Nat → Nat) (i : Nat) : Nat → Nat := fun k => P k + if k = i then 1 else 0
theorem addP_le (P : Nat → Nat) (i k : Nat) : P k ≤ addP P i k := Nat.le_add_right _ _
theorem addP_self (P : Nat → Nat) (i : Nat) : 1 ≤ addP P i i := by simp [addP]

structure Bk (N : Nat) (M : Cells) (H : List Nat) (P : Nat → Nat) (hs : List Nat) : Prop where
  ok : Ok N (blank M H) (fun k => P k + hs.count k) []
  hole : ∀ h ∈ H, 1 ≤ P h ∧ rf (M h) = 1
  small : ∀ j, (kd (M j)).length ≤ 64
theorem Ok.congr {N : Nat} {M : Cells} {own own' : Nat → Nat} {t : List Nat} (h : Ok N M own t) (e : ∀ k, 1 ≤ k → own k = own' k) : Ok N M own' t :=
  ⟨h.zero, h.top, h.pos, fun i hi => by rw [← e i hi]; exact h.bal i hi, h.rank⟩
section
variable {N : Nat} {M M' : Cells} {H hs hs' : List Nat} {P P' : Nat → Nat} {i j : Nat} {c c0 : Hc} {r : Nat}
theorem Bk.perm (h : Bk N M H P hs) (e : ∀ k, 1 ≤ k → hs.count k = hs'.count k) : Bk N M H P hs' :=
  ⟨h.ok.congr fun k hk => by rw [e k hk], h.hole, h.small⟩
theorem Bk.move (h : Bk N M H P hs) (e : ∀ k, 1 ≤ k → P k + hs.count k = P' k + hs'.count k) (hH : ∀ x ∈ H, 1 ≤ P' x) : Bk N M H P' hs' :=
  ⟨h.ok.congr e, fun x hx => ⟨hH x hx, (h.hole x hx).2⟩, h.small⟩
theorem Bk.zero (h : Bk N M H P hs) : M 0 = none := blank_none.1 h.ok.zero
theorem Bk.bal (h : Bk N M H P hs) (hi : 1 ≤ i) : rf (M i) = P i + hs.count i + occ N (blank M H) i := by
  have := h.ok.bal i hi
  rw [blank_rf] at this
  simpa using this
theorem Bk.lt (h : Bk N M H P hs) (hj : M j ≠ none) : 1 ≤ j ∧ j < N := h.ok.lt (fun e => hj (blank_none.1 e))
theorem Bk.hand (h : Bk N M H P hs) (hi : i ∈ hs) (h0 : i ≠ 0) : M i ≠ none ∧ i ∉ H := by
  have hb := h.bal (i := i) (by omega)
  have hc := List.count_pos_iff.2 hi
  refine ⟨held_of_rf (by omega), fun hH => ?_⟩
  have := h.hole i hH
  omega
theorem Bk.held (h : Bk N M H P hs) (hp : 1 ≤ P i) (h0 : i ≠ 0) : M i ≠ none := by
  have hb := h.bal (i := i) (by omega)
  exact held_of_rf (by omega)
theorem Bk.kid (h : Bk N M H P hs) (hi : i ∉ H) (hM : M i = some (c, r)) {k : Nat} (hk : k ∈ c.kids) (h0 : k ≠ 0) : M k ≠ none ∧ k ∉ H := by
  have hk' : k ∈ kd (blank M H i) := by rw [blank_out hi, hM]; exact hk
  have hj := h.lt (j := i) (by rw [hM]; simp)
  refine ⟨fun e => h.ok.kid hk' h0 (blank_none.2 e), fun hH => ?_⟩
  have h1 := count_le_occ (M := blank M H) hj.2 k
  have h2 := List.count_pos_iff.2 hk'
  have h3 := h.bal (i := k) (by omega)
  have h4 := h.hole k hH
  omega
theorem Bk.rfb (h : Bk N M H P hs) (j : Nat) : rf (M j) ≤ P j + hs.count j + N * 64 := by
  rcases Nat.eq_zero_or_pos j with e | e
  · subst e; rw [h.zero]; exact Nat.zero_le _
  · have h1 := h.bal (i := j) e
    have h2 : occ N (blank M H) j ≤ N * 64 := sumTo_le 64 N fun x _ => by
      refine Nat.le_trans List.count_le_length ?_
      unfold blank
      split
      · cases e : M x with
        | none => simp [kd]
        | some y => simp [kd]
      · exact h.small x
    omega

theorem keepC_blank (hi : i ∉ H) : blank (keepC M i) H = keepC (blank M H) i := by
  unfold keepC
  rw [blank_out hi]
  cases e : M i with
  | none => rfl
  | some x => exact blank_upd hi _
theorem kd_keepC : kd (keepC M i j) = kd (M j) := by
  unfold keepC
  cases e : M i with
  | none => rfl
  | some x =>
    by_cases e' : j = i
    · subst e'; show kd (upd M j _ j) = _; rw [upd_same, e]; rfl
    · show kd (upd M i _ j) = _
      rw [upd_other _ _ e']
theorem Bk.keep (h : Bk N M H P hs) (hi : i ≠ 0 → M i ≠ none ∧ i ∉ H) : Bk N (keepC M i) H P (i :: hs) := by
  by_cases h0 : i = 0
  · subst h0
    have e : keepC M 0 = M := by unfold keepC; rw [h.zero]
    rw [e]
    exact h.perm fun k hk => by rw [List.count_cons_of_ne (by simpa using (by omega : 0 ≠ k))]
  · obtain ⟨h1, h2⟩ := hi h0
    cases e : M i with
    | none => exact absurd e h1
    | some x =>
      have hM : blank M H i = some (x.1, x.2) := by rw [blank_out h2, e]
      refine ⟨?_, fun y hy => ⟨(h.hole y hy).1, ?_⟩, fun y => by rw [kd_keepC]; exact h.small y⟩
      · rw [keepC_blank h2]
        unfold keepC
        rw [hM]
        refine (h.ok.keep hM).congr fun k _ => ?_
        rw [List.count_cons]
        by_cases ek : k = i
        · subst ek; simp; omega
        · rw [if_neg ek, if_neg (by simpa using Ne.symm ek)]; omega
      · have hyi : y ≠ i := fun e => h2 (e ▸ hy)
        unfold keepC
        rw [e]
        show rf (upd M i _ y) = 1
        rw [upd_other _ _ hyi]
        exact (h.hole y hy).2
theorem Bk.keepAll : ∀ {l : List Nat} {M : Cells} {hs : List Nat}, Bk N M H P hs → (∀ k ∈ l, k ≠ 0 → M k ≠ none ∧ k ∉ H) → Bk N (keepAll M l) H P (l ++ hs)
  | [], _, _, h, _ => h
  | i :: l, M, hs, h, hl => by
    have h1 := h.keep (i := i) (hl i (by simp))
    have h2 := Bk.keepAll (l := l) h1 (fun k hk h0 => ⟨fun e => (hl k (by simp [hk]) h0).1 (keepC_none.1 e), (hl k (by simp [hk]) h0).2⟩)
    refine h2.perm fun k _ => ?_
    simp only [List.count_append, List.count_cons]
    omega
theorem Bk.make (h : Bk N M H P (c.kids ++ hs)) {n : Nat} (h1 : 1 ≤ n) (hN : n < N) (hn : M n = none) (hc : c.kids.length ≤ 64) : Bk N (upd M n (some (c, 1))) H P (n :: hs) := by
  have hnH : n ∉ H := fun hH => by have := h.hole n hH; rw [hn] at this; simp [rf] at this
  have hb := h.ok.free h1 (blank_none.2 hn)
  refine ⟨?_, fun y hy => ⟨(h.hole y hy).1, ?_⟩, fun y => ?_⟩
  · rw [blank_upd hnH]
    refine (h.ok.make h1 hN (blank_none.2 hn) c (fun k _ => by rw [List.count_append]; omega)).congr fun k _ => ?_
    rw [List.count_append, List.count_cons]
    by_cases ek : k = n
    · subst ek; simp; omega
    · rw [if_neg ek, if_neg (by simpa using Ne.symm ek)]; omega
  · have hyn : y ≠ n := fun e => hnH (e ▸ hy)
    rw [upd_other _ _ hyn]; exact (h.hole y hy).2
  · by_cases e : y = n
    · subst e; rw [upd_same]; exact hc
    · rw [upd_other _ _ e]; exact h.small y
theorem Bk.open (h : Bk N M H P (i :: hs)) (hM : M i = some (c0, 1)) : Bk N M (i :: H) (addP P i) (c0.kids ++ hs) := by
  have hi := h.lt (j := i) (by rw [hM]; simp)
  have hiH := (h.hand (i := i) (by simp) (by omega)).2
  have hb : blank M H i = some (c0, 1) := by rw [blank_out hiH, hM]
  refine ⟨?_, fun y hy => ?_, h.small⟩
  · rw [blank_cons hM]
    refine (h.ok.edit (c := { c0 with kids := [] }) hb (by simp; omega) (fun _ _ => Nat.zero_le _) (by simp)).congr fun k _ => ?_
    show P k + (i :: hs).count k - 0 + c0.kids.count k = addP P i k + (c0.kids ++ hs).count k
    rw [List.count_append, List.count_cons]
    unfold addP
    by_cases ek : k = i
    · subst ek; simp; omega
    · rw [if_neg ek, if_neg (by simpa using Ne.symm ek)]; omega
  · rcases List.mem_cons.1 hy with rfl | hy
    · exact ⟨addP_self _ _, by rw [hM]; rfl⟩
    · exact ⟨Nat.le_trans (h.hole y hy).1 (addP_le _ _ _), (h.hole y hy).2⟩
theorem Bk.fill (h : Bk N M (i :: H) (addP P i) (c.kids ++ hs)) (hiH : i ∉ H) (hH : ∀ x ∈ H, 1 ≤ P x) (hM : M i = some (c0, 1)) (hc : c.kids.length ≤ 64) : Bk N (upd M i (some (c, 1))) H P (i :: hs) ∧ i ∉ c.kids := by
  have hi := h.lt (j := i) (by rw [hM]; simp)
  have hb : blank M (i :: H) i = some ({ c0 with kids := [] }, 1) := blank_in (by simp) hM
  have hbal := h.bal (i := i) hi.1
  have hcnt : c.kids.count i = 0 := by
    rw [hM] at hbal
    simp only [rf] at hbal
    have h1 : 1 ≤ addP P i i := addP_self P i
    have h2 : (c.kids ++ hs).count i = c.kids.count i + hs.count i := List.count_append
    omega
  have hni : i ∉ c.kids := List.count_eq_zero.1 hcnt
  refine ⟨⟨?_, fun y hy => ⟨hH y hy, ?_⟩, fun y => ?_⟩, hni⟩
  · rw [blank_fill hiH]
    refine (h.ok.edit hb (by have := addP_self P i; show 1 ≤ addP P i i + _; omega) (fun k _ => by rw [List.count_append]; omega) hni).congr fun k _ => ?_
    show addP P i k + (c.kids ++ hs).count k - c.kids.count k + 0 = P k + (i :: hs).count k
    rw [List.count_append, List.count_cons]
    unfold addP
    by_cases ek : k = i
    · subst ek; simp; omega
    · rw [if_neg ek, if_neg (by simpa using Ne.symm ek)]; omega
  · have hyi : y ≠ i := fun e => hiH (e ▸ hy)
    rw [upd_other _ _ hyi]; exact (h.hole y (by simp [hy])).2
  · by_cases e : y = i
    · subst e; rw [upd_same]; exact hc
    · rw [upd_other _ _ e]; exact h.small y

theorem drops_blank {t : List Nat} {own : Nat → Nat} (hd : Drops M t M') : Ok N (blank M H) own t → (∀ h ∈ H, 1 ≤ own h ∧ rf (M h) = 1) → Drops (blank M H) t (blank M' H) ∧ ∀ h ∈ H, M' h = M h := by
  induction hd with
  | done M => exact fun _ _ => ⟨.done _, fun _ _ => rfl⟩
  | @step M M' t x _ ih =>
    intro ho hH
    have hxH : x ∉ H := fun hx => by
      have h1 := hH x hx
      have hx1 : 1 ≤ x := by
        rcases Nat.eq_zero_or_pos x with e | e
        · subst e
          have := blank_none.1 ho.zero
          rw [this] at h1
          simp [rf] at h1
        · exact e
      have h2 := ho.bal x hx1
      rw [blank_rf, List.count_append, List.count_singleton_self] at h2
      omega
    have e1 : blank (release M x).1 H = (release (blank M H) x).1 ∧ (release M x).2 = (release (blank M H) x).2 := by
      unfold release
      rw [blank_out hxH]
      cases e : M x with
      | none => exact ⟨rfl, rfl⟩
      | some y =>
        by_cases hr : 1 < y.2
        · simp only [hr, if_true]
          exact ⟨blank_upd hxH _, trivial⟩
        · simp only [hr, if_false]
          exact ⟨blank_upd hxH _, trivial⟩
    have hrel : ∀ h ∈ H, (release M x).1 h = M h := fun h hh => by
      have hne : h ≠ x := fun e => hxH (e ▸ hh)
      unfold release
      cases e : M x with
      | none => rfl
      | some y =>
        by_cases hr : 1 < y.2
        · simp only [hr, if_true]; exact upd_other _ _ hne
        · simp only [hr, if_false]; exact upd_other _ _ hne
    obtain ⟨h1, _⟩ := ho.release (x := x) (s := t) (fun i => List.count_append)
    obtain ⟨a1, a2⟩ := ih (by rw [e1.1, e1.2]; exact h1) (fun h hh => by rw [hrel h hh]; exact hH h hh)
    refine ⟨.step ?_, fun h hh => (a2 h hh).trans (hrel h hh)⟩
    rw [← e1.1, ← e1.2]
    exact a1
theorem Bk.drop (h : Bk N M H P (i :: hs)) (hd : Drops M [i] M') : Bk N M' H P hs ∧ Sub (blank M' H) (blank M H) ∧ ∀ x ∈ H, M' x = M x := by
  have ho : Ok N (blank M H) (fun k => P k + hs.count k) [i] := by
    by_cases h0 : i = 0
    · subst h0
      refine ⟨h.ok.zero, h.ok.top, h.ok.pos, fun k hk => ?_, h.ok.rank⟩
      have := h.ok.bal k hk
      rw [List.count_singleton, if_neg (by simpa using (by omega : 0 ≠ k))]
      rw [List.count_cons_of_ne (by simpa using (by omega : 0 ≠ k))] at this
      simpa using this
    · refine (h.ok.give (i := i) (by simp; omega)).congr fun k _ => ?_
      show P k + (i :: hs).count k - _ = _
      rw [List.count_cons]
      by_cases ek : k = i
      · subst ek; simp
      · rw [if_neg ek, if_neg (by simpa using Ne.symm ek)]; omega
  obtain ⟨h1, h2⟩ := drops_blank hd ho (fun x hx => ⟨Nat.le_trans (h.hole x hx).1 (Nat.le_add_right _ _), (h.hole x hx).2⟩)
  obtain ⟨h3, h4⟩ := h1.ok ho
  refine ⟨⟨h3, fun x hx => ⟨(h.hole x hx).1, by rw [h2 x hx]; exact (h.hole x hx).2⟩, fun y => ?_⟩, h4, h2⟩
  by_cases hy : y ∈ H
  · rw [h2 y hy]; exact h.small y
  · cases e : M' y with
    | none => simp [kd]
    | some z =>
      obtain ⟨r0, e0, _⟩ := h4 y z.1 z.2 (by rw [blank_out hy, e])
      rw [blank_out hy] at e0
      have := h.small y
      rw [e0] at this
      exact this
end

inductive Reach (M : Cells) (r : Nat) : Nat → Prop
  | refl : Reach M r r
  | kid {x k : Nat} (h : Reach M r x) (hk : k ∈ kd (M x)) (h0 : k ≠ 0) : Reach M r k
def Pres (M M' : Cells) (r : Nat) : Prop := ∀ x c q, Reach M r x → M x = some (c, q) → ∃ q', M' x = some (c, q')
def Keeps (P : Nat → Nat) (M M' : Cells) : Prop := ∀ r, r ≠ 0 → 1 ≤ P r → Pres M M' r
section
variable {N : Nat} {M M' M'' : Cells} {own P : Nat → Nat} {t H hs : List Nat} {r i x : Nat}
theorem Pres.refl (M : Cells) (r : Nat) : Pres M M r := fun _ _ q _ h => ⟨q, h⟩
theorem Pres.reach (h : Pres M M' r) (hx : Reach M r x) : Reach M' r x := by
  induction hx with
  | refl => exact .refl
  | @kid x k hx hk h0 ih =>
    cases e : M x with
    | none => rw [e] at hk; simp [kd] at hk
    | some y =>
      obtain ⟨q', e'⟩ := h x y.1 y.2 hx e
      refine .kid ih ?_ h0
      rw [e']
      rw [e] at hk
      exact hk
theorem Pres.trans (h : Pres M M' r) (k : Pres M' M'' r) : Pres M M'' r := fun x c q hx e => by
  obtain ⟨q', e'⟩ := h x c q hx e
  exact k x c q' (h.reach hx) e'
theorem Keeps.refl (P : Nat → Nat) (M : Cells) : Keeps P M M := fun r _ _ => Pres.refl M r
theorem Keeps.trans (h : Keeps P M M') (k : Keeps P M' M'') : Keeps P M M'' := fun r h0 hr => (h r h0 hr).trans (k r h0 hr)
theorem Keeps.less {P' : Nat → Nat} (h : Keeps P M M') (hP : ∀ k, P' k ≤ P k) : Keeps P' M M' := fun r h0 hr => h r h0 (Nat.le_trans hr (hP r))
theorem Pres.all (h : ∀ x c q, M x = some (c, q) → ∃ q', M' x = some (c, q')) : Pres M M' r := fun x c q _ e => h x c q e
theorem Pres.kid {c : Hc} {q k : Nat} (h : Pres M M' r) (e : M r = some (c, q)) (hk : k ∈ c.kids) (h0 : k ≠ 0) : Pres M M' k := fun x c' q' hx e' => by
  refine h x c' q' ?_ e'
  have h1 : Reach M r k := .kid .refl (by rw [e]; exact hk) h0
  clear e'
  induction hx with
  | refl => exact h1
  | kid _ hk h0 ih => exact .kid ih hk h0
theorem Pres.sub (hs : Sub M' M) (h' : Ok N M' own t) (hr : M' r ≠ none) : Pres M M' r := by
  have key : ∀ x, Reach M r x → M x ≠ none → M' x ≠ none := fun x hx => by
    induction hx with
    | refl => exact fun _ => hr
    | @kid x k hx hk h0 ih =>
      intro _
      have hx' : M x ≠ none := fun e => by rw [e] at hk; simp [kd] at hk
      cases e : M' x with
      | none => exact absurd e (ih hx')
      | some y =>
        obtain ⟨r0, e0, _⟩ := hs x y.1 y.2 e
        refine h'.kid (j := x) ?_ h0
        rw [e]
        rw [e0] at hk
        exact hk
  intro x c q hx e
  cases e' : M' x with
  | none => exact absurd e' (key x hx (by rw [e]; simp))
  | some y =>
    obtain ⟨r0, e0, _⟩ := hs x y.1 y.2 e'
    rw [e] at e0
    simp only [Option.some.injEq, Prod.mk.injEq] at e0
    exact ⟨y.2, by rw [e0.1]⟩
theorem Ok.lone (h : Ok N M own t) (h1 : 1 ≤ i) (hr : rf (M i) = 1) (ho : 1 ≤ own i) (hne : r ≠ i) : ¬ Reach M r i := fun hx => by
  cases hx with
  | refl => exact hne rfl
  | @kid x _ hx hk h0 =>
    have hxn : M x ≠ none := fun e => by rw [e] at hk; simp [kd] at hk
    have h2 := count_le_occ (M := M) (h.lt hxn).2 i
    have h3 := List.count_pos_iff.2 hk
    have h4 := h.bal i h1
    omega
theorem Pres.edit (hn : ¬ Reach M r i) (z : Option (Hc × Nat)) : Pres M (upd M i z) r := fun x c q hx e => ⟨q, by
  have hxi : x ≠ i := fun e' => hn (e' ▸ hx)
  rw [upd_other _ _ hxi]; exact e⟩
theorem Bk.pres_open {c0 : Hc} (h : Bk N M H P (i :: hs)) (hM : M i = some (c0, 1)) (hr : r ≠ i) : Pres (blank M H) (blank M (i :: H)) r := by
  have hi := h.lt (j := i) (by rw [hM]; simp)
  rw [blank_cons hM]
  exact Pres.edit (h.ok.lone hi.1 (by rw [blank_rf, hM]; rfl) (by simp; omega) hr) _
theorem Bk.pres_fill {c0 c : Hc} (h : Bk N M (i :: H) (addP P i) hs) (hiH : i ∉ H) (hM : M i = some (c0, 1)) (hr : r ≠ i) : Pres (blank M (i :: H)) (blank (upd M i (some (c, 1))) H) r := by
  have hi := h.lt (j := i) (by rw [hM]; simp)
  rw [blank_fill hiH]
  exact Pres.edit (h.ok.lone hi.1 (by rw [blank_rf, hM]; rfl) (Nat.le_trans (addP_self P i) (Nat.le_add_right _ _)) hr) _
theorem all_keepC (x : Nat) (c : Hc) (q : Nat) (e : M x = some (c, q)) : ∃ q', keepC M i x = some (c, q') := by
  unfold keepC
  cases ei : M i with
  | none => exact ⟨q, e⟩
  | some y =>
    by_cases hx : x = i
    · subst hx
      rw [e] at ei
      simp only [Option.some.injEq] at ei
      subst ei
      exact ⟨q + 1, upd_same _ _ _⟩
    · exact ⟨q, by show upd M i _ x = _; rw [upd_other _ _ hx]; exact e⟩
theorem all_keepAll : ∀ {l : List Nat} {M : Cells} (x : Nat) (c : Hc) (q : Nat), M x = some (c, q) → ∃ q', keepAll M l x = some (c, q')
  | [], _, _, _, q, e => ⟨q, e⟩
  | i :: l, M, x, c, q, e => by
    obtain ⟨q', e'⟩ := all_keepC (i := i) x c q e
    exact all_keepAll (l := l) x c q' e'
theorem all_blank {H : List Nat} (h : ∀ x c q, M x = some (c, q) → ∃ q', M' x = some (c, q')) (x : Nat) (c : Hc) (q : Nat) (e : blank M H x = some (c, q)) : ∃ q', blank M' H x = some (c, q') := by
  by_cases hx : x ∈ H
  · cases eM : M x with
    | none => rw [blank_none.2 eM] at e; cases e
    | some y =>
      rw [blank_in hx eM] at e
      simp only [Option.some.injEq, Prod.mk.injEq] at e
      obtain ⟨q', e'⟩ := h x y.1 y.2 eM
      exact ⟨q', by rw [blank_in hx e', e.1]⟩
  · rw [blank_out hx] at e ⊢
    exact h x c q e
theorem all_new {n : Nat} (hn : M n = none) (z : Option (Hc × Nat)) (x : Nat) (c : Hc) (q : Nat) (e : M x = some (c, q)) : ∃ q', upd M n z x = some (c, q') :=
  ⟨q, by rw [upd_other _ _ (fun e' => by rw [e', hn] at e; cases e)]; exact e⟩
end

end Go.Proofs.YtghbbpbhbinioaaGreat

namespace Go.Proofs.YtghbbpbhbinioaaGreat
set_option maxRecDepth 100000
open Go.RowKit

section
variable {b most : Nat} {M : Cells} {F : Nat → Prop}
set_option maxRecDepth 100000 in
theorem vBegin_no (ow : Int) (need : Nat) (v : Value) (w : World) (h : Ar w b most M F) (hn : most < live (most + 1) M + need) : Calls Tryz.prog 158 #[ap b, .int .u32 ow, .int .i64 (need : Int), v] w fun e w' => e = .returned (.bool false) ∧ Below w.heap.size w w' := by
  have HA := Lib.hid h
  have hlt : (most : Int) - (live (most + 1) M : Nat) < (need : Int) := by omega
  clear h
  go_enter Tryz.func158, Tryz.ntmps158
  go_wp2_with fail
  refine (aroom b most M F _ HA.out).mono ?_
  rintro e w2 ⟨rfl, k, rfl⟩
  have HE := Lib.hid (below_drewN w k)
  go_wp2_with fail
  go_ret
  exact ⟨rfl, HE.out⟩
set_option maxRecDepth 100000 in
theorem vBegin_own (ow : Int) (need : Nat) (v : Value) (w : World) (h : Ar w b most M F) (hn : live (most + 1) M + need ≤ most) (h0 : ¬ ow = 0) : Calls Tryz.prog 158 #[ap b, .int .u32 ow, .int .i64 (need : Int), v] w fun e w' => e = .returned (.bool true) ∧ Below w.heap.size w w' := by
  have HA := Lib.hid h
  have hlt : ¬ (most : Int) - (live (most + 1) M : Nat) < (need : Int) := by omega
  clear h
  go_enter Tryz.func158, Tryz.ntmps158
  go_wp2_with fail
  refine (aroom b most M F _ HA.out).mono ?_
  rintro e w2 ⟨rfl, k, rfl⟩
  have HE := Lib.hid (below_drewN w k)
  go_wp2_with fail
  go_ret
  exact ⟨rfl, HE.out⟩
set_option maxRecDepth 100000 in
set_option maxHeartbeats 800000 in
theorem vBegin_keep (need : Nat) (ks : List Nat) (v : Value) (w : World) (h : Ar w b most M F) (hn : live (most + 1) M + need ≤ most) (hv : Rd w v ks.length (nums (ns ks))) (hO : ∀ x, v.ownBlock = some x → ¬ F x ∧ x < w.heap.size) (hl : ks.length ≤ 4194304) (hr : ∀ j, rf (M j) + ks.length ≤ 4611686018427387902) :
    Calls Tryz.prog 158 #[ap b, .int .u32 0, .int .i64 (need : Int), v] w fun e w' => e = .returned (.bool true) ∧ Stp w w' b most (keepAll M ks) F := by
  obtain ⟨A, c, rfl, hc⟩ := hv.form
  have HA := Lib.hid h
  have HV := Lib.hid hv
  have HR := Lib.hid hr
  have HO := Lib.hid hO
  have HF := Lib.hid (show ∀ x, F x → x < w.heap.size from fun x hx => h.lt hx)
  have hlt : ¬ (most : Int) - (live (most + 1) M : Nat) < (need : Int) := by omega
  clear h hv hr hO
  go_enter Tryz.func158, Tryz.ntmps158
  go_wp2_with fail
  refine (aroom b most M F _ HA.out).mono ?_
  rintro e w2 ⟨rfl, k, rfl⟩
  have HE := Lib.hid (below_drewN w k)
  have HS0 := Lib.hid (Stp.below HA.out (below_drewN w k))
  go_wp2_with fail
  go_loopg [19] ks.length (fun c' i wr => ∃ j : Nat, j + c' = ks.length ∧ i = .int .i64 j ∧ Stp w wr b most (keepAll M (ks.take j)) F)
  case atStart => exact ⟨0, by omega, rfl, HS0.out⟩
  case round =>
    obtain ⟨j, hj, rfl, hs⟩ := hrel
    by_cases h1 : j < ks.length
    · obtain ⟨x, hx⟩ : ∃ x, ks[j]? = some x := ⟨_, List.getElem?_eq_getElem h1⟩
      obtain ⟨g, o, c', e, _, hcell⟩ := (hs.kp.rd HV.out (fun x hx => (HO.out x hx).1)).at (j := j) (u := .int .i64 (x : Int)) (by rw [nums_at]; unfold ns; rw [List.getElem?_map, hx]; rfl)
      injection e with e1 e2 e3
      subst e1 e3
      have HX := Lib.hid hx
      have HS := Lib.hid hs
      clear hx hs
      have hrx : rf (keepAll M (ks.take j) x) ≤ 4611686018427387904 := by
        have h1 := keepAll_rf (j := x) (l := ks.take j) (M := M)
        have h2 := HR.out x
        rw [List.length_take] at h1
        omega
      go_wp2_with (go_at_call 63; refine (vkeep1 x _ HS.out.ar hrx).mono ?_; rintro e w3 ⟨⟨zz, rfl⟩, hs3⟩; have HS3 := Lib.hid hs3; clear hs3)
      go_roundg (ks.length - (j + 1))
      case measure => omega
      case rel =>
        refine ⟨j + 1, by omega, by go_num, ?_⟩
        rw [List.take_add_one, HX.out, Option.toList_some, keepAll_snoc]
        exact HS.out.trans HS3.out
    · obtain rfl : j = ks.length := by omega
      have HS := Lib.hid (show Stp w wr b most (keepAll M ks) F by rw [List.take_length] at hs; exact hs)
      clear hs
      go_wp2_with fail
      go_ret
      exact ⟨rfl, HS.out⟩
end
end Go.Proofs.YtghbbpbhbinioaaGreat

namespace Go.Proofs.YtghbbpbhbinioaaGreat
set_option maxRecDepth 100000

abbrev Vs := List (Int × Int × ByteArray)
structure Vc where
  n : Nat
  root : Nat
  tail : Nat
def Leaf (M : Cells) (x : Nat) (vs : Vs) : Prop := ∃ c r, M x = some (c, r) ∧ c.vals = vs ∧ c.kids = []
def chunk (l : Vs) (k : Nat) : Vs := (l.drop (32 * k)).take 32
structure VecIs (M : Cells) (v : Vc) (l : Vs) : Prop where
  n : v.n = l.length
  le : l.length ≤ 1024
  nil : l = [] → v.root = 0 ∧ v.tail = 0
  tl : l ≠ [] → Leaf M v.tail (chunk l ((l.length - 1) / 32))
  r0 : l.length ≤ 32 → v.root = 0
  rt : 32 < l.length → ∃ c r, M v.root = some (c, r) ∧ c.vals = [] ∧ c.kids.length = (l.length - 1) / 32 ∧ ∀ k x, c.kids[k]? = some x → Leaf M x (chunk l k)
theorem VecIs.empty (M : Cells) : VecIs M ⟨0, 0, 0⟩ [] := ⟨rfl, Nat.zero_le _, fun _ => ⟨rfl, rfl⟩, fun h => absurd rfl h, fun _ => rfl, fun h => by simp at h⟩

end Go.Proofs.YtghbbpbhbinioaaGreat

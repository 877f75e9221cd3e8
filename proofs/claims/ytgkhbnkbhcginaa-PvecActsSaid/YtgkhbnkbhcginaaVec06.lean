/- Package pvec: what stands behind every change: alone, fresh, Keep, Drop, begin. -/
import Derived.Test.YtgkhbnkbhcginaaEdit04
namespace Go.Proofs.Ytgkhbnkbhcginaa
open Go.RowKit

/-- From w to w' the arena has come to M', with what is new; nothing else has changed. -/
structure Stp (w w' : World) (b most : Nat) (M' : Cells) (F : Nat → Prop) : Prop where
  ar : Ar w' b most M' (Fn F w w')
  kp : Kp F w w'
section
variable {w w' w'' : World} {b most : Nat} {M M' M'' : Cells} {F : Nat → Prop}
theorem Stp.mk' (h : Ar w' b most M' (Fn F w w') ∧ Kp F w w') : Stp w w' b most M' F := ⟨h.1, h.2⟩
theorem Stp.below (h : Ar w b most M F) (hb : Below w.heap.size w w') : Stp w w' b most M F :=
  ⟨(h.below hb).mono (fun _ => .inl) (Fn.lt (fun _ hk => h.lt hk) hb.size), Kp.of_below hb F⟩
theorem Stp.refl (h : Ar w b most M F) : Stp w w b most M F := Stp.below h (Below.refl _ _)
theorem Stp.trans (h : Stp w w' b most M' F) (k : Stp w' w'' b most M'' (Fn F w w')) : Stp w w'' b most M'' F where
  ar := k.ar.mono (fun g hg => by
    rcases hg with (hg | hg) | hg
    · exact .inl hg
    · exact .inr ⟨hg.1, Nat.lt_of_lt_of_le hg.2 k.kp.size⟩
    · exact .inr ⟨Nat.le_trans h.kp.size hg.1, hg.2⟩) (fun g hg => by
    rcases hg with hg | hg
    · exact Nat.lt_of_lt_of_le (h.ar.lt (.inl hg)) k.kp.size
    · exact hg.2)
  kp := h.kp.trans k.kp (fun g hg => Fn.old hg)
theorem Stp.after (h : Stp w w' b most M' F) (hb : Below w'.heap.size w' w'') : Stp w w'' b most M' F := h.trans (Stp.below h.ar hb)
end

theorem rfi_nat {M : Cells} (h : M 0 = none) (i : Nat) : rfi M (i : Int) = rf (M i) := by
  unfold rfi
  by_cases e : i = 0
  · subst e; rw [if_neg (by omega), h]; rfl
  · rw [if_pos (by omega), Int.toNat_natCast]
theorem Ar.zero {w : World} {b most : Nat} {M : Cells} {F : Nat → Prop} (h : Ar w b most M F) : M 0 = none := by
  obtain ⟨n, vc, vf, fr, H, h⟩ := h
  exact h.zero

/-- May this cell be changed in place? -/
def aloneB (M : Cells) (i : Nat) (ow : Int) : Bool := decide (ow ≠ 0) && match M i with
  | some (c, r) => decide (r = 1) && decide (c.owner = ow)
  | none => false
section
variable {b most : Nat} {M : Cells} {F : Nat → Prop}
set_option maxRecDepth 100000 in
set_option maxHeartbeats 800000 in
theorem valone (i : Nat) (ow : Int) (w : World) (h : Ar w b most M F) : Calls Try.prog 67 #[ap b, .int .i64 i, .int .u32 ow] w fun e w' => e = .returned (.bool (aloneB M i ow)) ∧ Below w.heap.size w w' := by
  have hz := h.zero
  have hri := rfi_nat hz i
  by_cases h0 : ow = 0
  · subst h0
    have hB := Lib.hid (show aloneB M i 0 = false from rfl)
    clear h hz hri
    go_enter Try.func67, Try.ntmps67
    go_wp2_with fail
    go_ret
    exact ⟨ret_bool hB.out.symm, Below.refl _ _⟩
  · have h0' : (ow == 0) = false := by simpa using h0
    cases hM : M i with
    | none =>
      have hB := Lib.hid (show aloneB M i ow = false by unfold aloneB; rw [hM]; simp)
      rw [hM] at hri
      have hri' : rfi M (i : Int) = 0 := hri
      have HA := Lib.hid h
      clear h hz hri hM
      go_enter Try.func67, Try.ntmps67
      go_wp2_with (go_at_call 78; refine (arefs (i : Int) b most M F _ HA.out).mono ?_; rintro e w' ⟨rfl, rfl⟩; rw [hri'])
      go_ret
      exact ⟨ret_bool hB.out.symm, Below.refl _ _⟩
    | some x =>
      obtain ⟨c, r⟩ := x
      rw [hM] at hri
      have hri' : rfi M (i : Int) = r := hri
      have HA := Lib.hid h
      have HM := Lib.hid hM
      clear h hz hri
      by_cases h1 : r = 1
      · subst h1
        by_cases h2 : c.owner = ow
        · have hB := Lib.hid (show aloneB M i ow = true by unfold aloneB; rw [hM]; simp [h0, h2])
          have h2' : (c.owner == ow) = true := by simpa using h2
          clear hM
          go_enter Try.func67, Try.ntmps67
          go_wp2_with (first | (go_at_call 78; refine (arefs (i : Int) b most M F _ HA.out).mono ?_; rintro e w' ⟨rfl, rfl⟩; rw [hri']) | (go_at_call 61; refine (get i c 1 b most M F _ HA.out HM.out).mono ?_; rintro e w1 ⟨v, k, rfl, o1, o2, hb⟩; obtain ⟨A1, m1, rfl, _⟩ := (Rd.of_own o1).form; obtain ⟨A2, m2, rfl, _⟩ := (Rd.of_own o2).form; have HB := Lib.hid hb; clear o1 o2 hb))
          go_ret
          exact ⟨ret_bool hB.out.symm, HB.out.alloc (HB.out.size) _⟩
        · have hB := Lib.hid (show aloneB M i ow = false by unfold aloneB; rw [hM]; simp [h2])
          have h2' : (c.owner == ow) = false := by simpa using h2
          clear hM
          go_enter Try.func67, Try.ntmps67
          go_wp2_with (first | (go_at_call 78; refine (arefs (i : Int) b most M F _ HA.out).mono ?_; rintro e w' ⟨rfl, rfl⟩; rw [hri']) | (go_at_call 61; refine (get i c 1 b most M F _ HA.out HM.out).mono ?_; rintro e w1 ⟨v, k, rfl, o1, o2, hb⟩; obtain ⟨A1, m1, rfl, _⟩ := (Rd.of_own o1).form; obtain ⟨A2, m2, rfl, _⟩ := (Rd.of_own o2).form; have HB := Lib.hid hb; clear o1 o2 hb))
          go_ret
          exact ⟨ret_bool hB.out.symm, HB.out.alloc (HB.out.size) _⟩
      · have hB := Lib.hid (show aloneB M i ow = false by unfold aloneB; rw [hM]; simp [h1])
        have h1' : ¬ (r : Int) = 1 := by omega
        clear hM
        go_enter Try.func67, Try.ntmps67
        go_wp2_with (go_at_call 78; refine (arefs (i : Int) b most M F _ HA.out).mono ?_; rintro e w' ⟨rfl, rfl⟩; rw [hri'])
        go_ret
        exact ⟨ret_bool hB.out.symm, Below.refl _ _⟩

/-- How many cells must be made for a change of these. -/
def freshN (M : Cells) (ow : Int) : List Nat → Nat
  | [] => 0
  | i :: l => if aloneB M i ow then freshN M ow l else l.length + 1
theorem freshN_le (M : Cells) (ow : Int) : ∀ l, freshN M ow l ≤ l.length
  | [] => Nat.le_refl _
  | i :: l => by
    unfold freshN
    split
    · exact Nat.le_succ_of_le (freshN_le M ow l)
    · exact Nat.le_refl _
set_option maxRecDepth 100000 in
set_option maxHeartbeats 800000 in
theorem vfresh (ow : Int) (ks : List Nat) (v : Value) (w : World) (h : Ar w b most M F) (hv : Rd w v ks.length (nums (ns ks))) (hl : ks.length ≤ 4194304) :
    Calls Try.prog 42 #[ap b, .int .u32 ow, v] w fun e w' => e = .returned (.int .i64 (freshN M ow ks)) ∧ Below w.heap.size w w' := by
  obtain ⟨A, c, rfl, hc⟩ := hv.form
  have HA := Lib.hid h
  have HV := Lib.hid hv
  clear h hv
  go_enter Try.func42, Try.ntmps42
  go_wp2_with fail
  go_loopg [11] ks.length (fun c' i wr => ∃ j : Nat, j + c' = ks.length ∧ i = .int .i64 j ∧ freshN M ow ks = freshN M ow (ks.drop j) ∧ Below w.heap.size w wr)
  case atStart => exact ⟨0, by omega, rfl, rfl, Below.refl _ _⟩
  case round =>
    obtain ⟨j, hj, rfl, hf, hb⟩ := hrel
    by_cases h1 : j < ks.length
    · obtain ⟨x, hx⟩ : ∃ x, ks[j]? = some x := ⟨_, List.getElem?_eq_getElem h1⟩
      obtain ⟨g, o, c', e, _, hcell⟩ := (HV.out.below hb).at (j := j) (u := .int .i64 (x : Int)) (by rw [nums_at]; unfold ns; rw [List.getElem?_map, hx]; rfl)
      injection e with e1 e2 e3
      subst e1 e3
      have hd : ks.drop j = x :: ks.drop (j + 1) := by
        rw [List.drop_eq_getElem_cons h1]
        congr 1
        have := List.getElem?_eq_getElem h1
        rw [hx] at this
        exact (Option.some.inj this).symm
      have HD := Lib.hid hd
      have HF := Lib.hid hf
      have HB := Lib.hid hb
      clear hd hf hb hx
      cases hal : aloneB M x ow
      · have hres := Lib.hid (show (freshN M ow ks : Int) = (ks.length : Int) - (j : Int) by
          rw [HF.out, HD.out]
          show ((if aloneB M x ow = true then freshN M ow (ks.drop (j + 1)) else (ks.drop (j + 1)).length + 1 : Nat) : Int) = _
          rw [if_neg (by rw [hal]; simp), List.length_drop]
          omega)
        go_wp2_with (go_at_call 67; refine (valone x ow _ (HA.out.below HB.out)).mono ?_; rintro e w1 ⟨rfl, hb1⟩; rw [hal]; have HB1 := Lib.hid (HB.out.trans (hb1.mono HB.out.size)); clear hb1)
        go_ret
        exact ⟨ret_int (by rw [hres.out]), HB1.out⟩
      · have hres := Lib.hid (show freshN M ow ks = freshN M ow (ks.drop (j + 1)) by
          rw [HF.out, HD.out]
          show (if aloneB M x ow = true then freshN M ow (ks.drop (j + 1)) else (ks.drop (j + 1)).length + 1 : Nat) = _
          rw [if_pos hal])
        go_wp2_with (go_at_call 67; refine (valone x ow _ (HA.out.below HB.out)).mono ?_; rintro e w1 ⟨rfl, hb1⟩; rw [hal]; have HB1 := Lib.hid (HB.out.trans (hb1.mono HB.out.size)); clear hb1)
        go_roundg (ks.length - (j + 1))
        case measure => omega
        case rel => exact ⟨j + 1, by omega, by go_num, hres.out, HB1.out⟩
    · obtain rfl : j = ks.length := by omega
      have hres := Lib.hid (show (freshN M ow ks : Int) = 0 by rw [hf, List.drop_length]; rfl)
      have HB := Lib.hid hb
      clear hf hb
      go_wp2_with fail
      go_ret
      exact ⟨ret_int hres.out.symm, HB.out⟩

/-- One reference more, if there is a cell. -/
def keepC (M : Cells) (i : Nat) : Cells := match M i with
  | some (c, r) => upd M i (some (c, r + 1))
  | none => M
theorem vkeep1 (i : Nat) (w : World) (h : Ar w b most M F) (hr : rf (M i) ≤ 4611686018427387904) : Calls Try.prog 54 #[ap b, .int .i64 i] w fun e w' => (∃ z, e = .returned (.int .i64 z)) ∧ Stp w w' b most (keepC M i) F := by
  cases hM : M i with
  | none =>
    refine (akeep_no (i : Int) b most M F w h (fun _ => by simpa using hM)).mono ?_
    rintro e w' ⟨rfl, rfl⟩
    exact ⟨⟨4, rfl⟩, by unfold keepC; rw [hM]; exact Stp.refl h⟩
  | some x =>
    obtain ⟨c, r⟩ := x
    rw [hM] at hr
    refine (akeep i c r b most M F w h hM hr).mono ?_
    rintro e w' ⟨rfl, ha, hk⟩
    exact ⟨⟨0, rfl⟩, by unfold keepC; rw [hM]; exact ⟨ha, hk⟩⟩
theorem vdrop1 (i : Nat) (w : World) (h : Ar w b most M F) (hr : ∀ j, rf (M j) ≤ 4611686018427387904) : Calls Try.prog 55 #[ap b, .int .i64 i] w fun e w' => (∃ z, e = .returned (.int .i64 z)) ∧ ∃ M', Drops M [i] M' ∧ Stp w w' b most M' F := by
  by_cases hM : M i = none
  · refine (adrop_no (i : Int) b most M F w h (fun _ => by simpa using hM)).mono ?_
    rintro e w' ⟨rfl, rfl⟩
    refine ⟨⟨4, rfl⟩, M, ?_, Stp.refl h⟩
    have : release M i = (M, []) := by unfold release; rw [hM]
    exact Drops.step (t := []) (by rw [this]; exact Drops.done M)
  · refine (adrop i b most M F w h hM hr).mono ?_
    rintro e w' ⟨rfl, M', hd, ha, hk⟩
    exact ⟨⟨0, rfl⟩, M', hd, ha, hk⟩
end

end Go.Proofs.Ytgkhbnkbhcginaa

/- Several texts in one. -/
import Derived.Test.YtacoingheieceaaGreatMA08
import Derived.Deep.LoopGhost
/- Package pvec: what stands behind every change: alone, fresh, Keep, Drop, begin. -/
namespace Go.Proofs.YtacoingheieceaaGreat
set_option maxRecDepth 100000
open Go.RowKit

/-- From w to w' the arena has come to M', with what is new; nothing else has changed. -/
structure Stp (w w' : World) (b most : Nat) (M' : Cells) (F : Nat → Prop) : Prop where
  ar : Ar w' b most M' (Fn F w w')
  kp : Kp F w w'
section
variable {w w' w'' : World} {b most : Nat} {M M' M'' : Cells} {F : Nat → Prop}
theorem Stp.mk' (h : Ar w' b most M' (Fn F w w') ∧ Kp F w w') : Stp w w' b most M' F := ⟨h.1, h.2⟩
theorem Stp.below (h : Ar w b most M F) (hb : Below w.heap.size w w') : Stp w w' b most M F :=
  ⟨(h.below hb).mono (fun _ => .inl) (Fn.lt (fun _ hk => h.lt hk) hb.size), Kp.of_below hb F⟩
theorem Stp.refl (h : Ar w b most M F) : Stp w w b most M F := Stp.below h (Below.refl _ _)
theorem Stp.trans (h : Stp w w' b most M' F) (k : Stp w' w'' b most M'' (Fn F w w')) : Stp w w'' b most M'' F where
  ar := k.ar.mono (fun g hg => by
    rcases hg with (hg | hg) | hg
    · exact .inl hg
    · exact .inr ⟨hg.1, Nat.lt_of_lt_of_le hg.2 k.kp.size⟩
    · exact .inr ⟨Nat.le_trans h.kp.size hg.1, hg.2⟩) (fun g hg => by
    rcases hg with hg | hg
    · exact Nat.lt_of_lt_of_le (h.ar.lt (.inl hg)) k.kp.size
    · exact hg.2)
  kp := h.kp.trans k.kp (fun g hg => Fn.old hg)
theorem Stp.after (h : Stp w w' b most M' F) (hb : Below w'.heap.size w' w'') : Stp w w'' b most M' F := h.trans (Stp.below h.ar hb)
end

theorem rfi_nat {M : Cells} (h : M 0 = none) (i : Nat) : rfi M (i : Int) = rf (M i) := by
  unfold rfi
  by_cases e : i = 0
  · subst e; rw [if_neg (by omega), h]; rfl
  · rw [if_pos (by omega), Int.toNat_natCast]
theorem Ar.zero {w : World} {b most : Nat} {M : Cells} {F : Nat → Prop} (h : Ar w b most M F) : M 0 = none := by
  obtain ⟨n, vc, vf, fr, H, h⟩ := h
  exact h.zero

/-- May this cell be changed in place? -/
def aloneB (M : Cells) (i : Nat) (ow : Int) : Bool := decide (ow ≠ 0) && match M i with
  | some (c, r) => decide (r = 1) && decide (c.owner = ow)
  | none => false
section
variable {b most : Nat} {M : Cells} {F : Nat → Prop}
set_option maxRecDepth 100000 in
set_option maxHeartbeats 800000 in
theorem valone (i : Nat) (ow : Int) (w : World) (h : Ar w b most M F) : Calls Tryz.prog 166 #[ap b, .int .i64 i, .int .u32 ow] w fun e w' => e = .returned (.bool (aloneB M i ow)) ∧ Below w.heap.size w w' := by
  have hz := h.zero
  have hri := rfi_nat hz i
  by_cases h0 : ow = 0
  · subst h0
    have hB := Lib.hid (show aloneB M i 0 = false from rfl)
    clear h hz hri
    go_enter Tryz.func166, Tryz.ntmps166
    go_wp2_with fail
    go_ret
    exact ⟨ret_bool hB.out.symm, Below.refl _ _⟩
  · have h0' : (ow == 0) = false := by simpa using h0
    cases hM : M i with
    | none =>
      have hB := Lib.hid (show aloneB M i ow = false by unfold aloneB; rw [hM]; simp)
      rw [hM] at hri
      have hri' : rfi M (i : Int) = 0 := hri
      have HA := Lib.hid h
      clear h hz hri hM
      go_enter Tryz.func166, Tryz.ntmps166
      go_wp2_with (go_at_call 182; refine (arefs (i : Int) b most M F _ HA.out).mono ?_; rintro e w' ⟨rfl, rfl⟩; rw [hri'])
      go_ret
      exact ⟨ret_bool hB.out.symm, Below.refl _ _⟩
    | some x =>
      obtain ⟨c, r⟩ := x
      rw [hM] at hri
      have hri' : rfi M (i : Int) = r := hri
      have HA := Lib.hid h
      have HM := Lib.hid hM
      clear h hz hri
      by_cases h1 : r = 1
      · subst h1
        by_cases h2 : c.owner = ow
        · have hB := Lib.hid (show aloneB M i ow = true by unfold aloneB; rw [hM]; simp [h0, h2])
          have h2' : (c.owner == ow) = true := by simpa using h2
          clear hM
          go_enter Tryz.func166, Tryz.ntmps166
          go_wp2_with (first | (go_at_call 182; refine (arefs (i : Int) b most M F _ HA.out).mono ?_; rintro e w' ⟨rfl, rfl⟩; rw [hri']) | (go_at_call 120; refine (get i c 1 b most M F _ HA.out HM.out).mono ?_; rintro e w1 ⟨v, k, rfl, o1, o2, hb⟩; obtain ⟨A1, m1, rfl, _⟩ := (Rd.of_own o1).form; obtain ⟨A2, m2, rfl, _⟩ := (Rd.of_own o2).form; have HB := Lib.hid hb; clear o1 o2 hb))
          go_ret
          exact ⟨ret_bool hB.out.symm, HB.out.alloc (HB.out.size) _⟩
        · have hB := Lib.hid (show aloneB M i ow = false by unfold aloneB; rw [hM]; simp [h2])
          have h2' : (c.owner == ow) = false := by simpa using h2
          clear hM
          go_enter Tryz.func166, Tryz.ntmps166
          go_wp2_with (first | (go_at_call 182; refine (arefs (i : Int) b most M F _ HA.out).mono ?_; rintro e w' ⟨rfl, rfl⟩; rw [hri']) | (go_at_call 120; refine (get i c 1 b most M F _ HA.out HM.out).mono ?_; rintro e w1 ⟨v, k, rfl, o1, o2, hb⟩; obtain ⟨A1, m1, rfl, _⟩ := (Rd.of_own o1).form; obtain ⟨A2, m2, rfl, _⟩ := (Rd.of_own o2).form; have HB := Lib.hid hb; clear o1 o2 hb))
          go_ret
          exact ⟨ret_bool hB.out.symm, HB.out.alloc (HB.out.size) _⟩
      · have hB := Lib.hid (show aloneB M i ow = false by unfold aloneB; rw [hM]; simp [h1])
        have h1' : ¬ (r : Int) = 1 := by omega
        clear hM
        go_enter Tryz.func166, Tryz.ntmps166
        go_wp2_with (go_at_call 182; refine (arefs (i : Int) b most M F _ HA.out).mono ?_; rintro e w' ⟨rfl, rfl⟩; rw [hri'])
        go_ret
        exact ⟨ret_bool hB.out.symm, Below.refl _ _⟩

/-- How many cells must be made for a change of these. -/
def freshN (M : Cells) (ow : Int) : List Nat → Nat
  | [] => 0
  | i :: l => if aloneB M i ow then freshN M ow l else l.length + 1
theorem freshN_le (M : Cells) (ow : Int) : ∀ l, freshN M ow l ≤ l.length
  | [] => Nat.le_refl _
  | i :: l => by
    unfold freshN
    split
    · exact Nat.le_succ_of_le (freshN_le M ow l)
    · exact Nat.le_refl _
set_option maxRecDepth 100000 in
set_option maxHeartbeats 800000 in
theorem vfresh (ow : Int) (ks : List Nat) (v : Value) (w : World) (h : Ar w b most M F) (hv : Rd w v ks.length (nums (ns ks))) (hl : ks.length ≤ 4194304) :
    Calls Tryz.prog 138 #[ap b, .int .u32 ow, v] w fun e w' => e = .returned (.int .i64 (freshN M ow ks)) ∧ Below w.heap.size w w' := by
  obtain ⟨A, c, rfl, hc⟩ := hv.form
  have HA := Lib.hid h
  have HV := Lib.hid hv
  clear h hv
  go_enter Tryz.func138, Tryz.ntmps138
  go_wp2_with fail
  go_loopg [11] ks.length (fun c' i wr => ∃ j : Nat, j + c' = ks.length ∧ i = .int .i64 j ∧ freshN M ow ks = freshN M ow (ks.drop j) ∧ Below w.heap.size w wr)
  case atStart => exact ⟨0, by omega, rfl, rfl, Below.refl _ _⟩
  case round =>
    obtain ⟨j, hj, rfl, hf, hb⟩ := hrel
    by_cases h1 : j < ks.length
    · obtain ⟨x, hx⟩ : ∃ x, ks[j]? = some x := ⟨_, List.getElem?_eq_getElem h1⟩
      obtain ⟨g, o, c', e, _, hcell⟩ := (HV.out.below hb).at (j := j) (u := .int .i64 (x : Int)) (by rw [nums_at]; unfold ns; rw [List.getElem?_map, hx]; rfl)
      injection e with e1 e2 e3
      subst e1 e3
      have hd : ks.drop j = x :: ks.drop (j + 1) := by
        rw [List.drop_eq_getElem_cons h1]
        congr 1
        have := List.getElem?_eq_getElem h1
        rw [hx] at this
        exact (Option.some.inj this).symm
      have HD := Lib.hid hd
      have HF := Lib.hid hf
      have HB := Lib.hid hb
      clear hd hf hb hx
      cases hal : aloneB M x ow
      · have hres := Lib.hid (show (freshN M ow ks : Int) = (ks.length : Int) - (j : Int) by
          rw [HF.out, HD.out]
          show ((if aloneB M x ow = true then freshN M ow (ks.drop (j + 1)) else (ks.drop (j + 1)).length + 1 : Nat) : Int) = _
          rw [if_neg (by rw [hal]; simp), List.length_drop]
          omega)
        go_wp2_with (go_at_call 166; refine (valone x ow _ (HA.out.below HB.out)).mono ?_; rintro e w1 ⟨rfl, hb1⟩; rw [hal]; have HB1 := Lib.hid (HB.out.trans (hb1.mono HB.out.size)); clear hb1)
        go_ret
        exact ⟨ret_int (by rw [hres.out]), HB1.out⟩
      · have hres := Lib.hid (show freshN M ow ks = freshN M ow (ks.drop (j + 1)) by
          rw [HF.out, HD.out]
          show (if aloneB M x ow = true then freshN M ow (ks.drop (j + 1)) else (ks.drop (j + 1)).length + 1 : Nat) = _
          rw [if_pos hal])
        go_wp2_with (go_at_call 166; refine (valone x ow _ (HA.out.below HB.out)).mono ?_; rintro e w1 ⟨rfl, hb1⟩; rw [hal]; have HB1 := Lib.hid (HB.out.trans (hb1.mono HB.out.size)); clear hb1)
        go_roundg (ks.length - (j + 1))
        case measure => omega
        case rel => exact ⟨j + 1, by omega, by go_num, hres.out, HB1.out⟩
    · obtain rfl : j = ks.length := by omega
      have hres := Lib.hid (show (freshN M ow ks : Int) = 0 by rw [hf, List.drop_length]; rfl)
      have HB := Lib.hid hb
      clear hf hb
      go_wp2_with fail
      go_ret
      exact ⟨ret_int hres.out.symm, HB.out⟩

/-- One reference more, if there is a cell. -/
def keepC (M : Cells) (i : Nat) : Cells := match M i with
  | some (c, r) => upd M i (some (c, r + 1))
  | none => M
theorem vkeep1 (i : Nat) (w : World) (h : Ar w b most M F) (hr : rf (M i) ≤ 4611686018427387904) : Calls Tryz.prog 66 #[ap b, .int .i64 i] w fun e w' => (∃ z, e = .returned (.int .i64 z)) ∧ Stp w w' b most (keepC M i) F := by
  cases hM : M i with
  | none =>
    refine (akeep_no (i : Int) b most M F w h (fun _ => by simpa using hM)).mono ?_
    rintro e w' ⟨rfl, rfl⟩
    exact ⟨⟨4, rfl⟩, by unfold keepC; rw [hM]; exact Stp.refl h⟩
  | some x =>
    obtain ⟨c, r⟩ := x
    rw [hM] at hr
    refine (akeep i c r b most M F w h hM hr).mono ?_
    rintro e w' ⟨rfl, ha, hk⟩
    exact ⟨⟨0, rfl⟩, by unfold keepC; rw [hM]; exact ⟨ha, hk⟩⟩
theorem vdrop1 (i : Nat) (w : World) (h : Ar w b most M F) (hr : ∀ j, rf (M j) ≤ 4611686018427387904) : Calls Tryz.prog 16 #[ap b, .int .i64 i] w fun e w' => (∃ z, e = .returned (.int .i64 z)) ∧ ∃ M', Drops M [i] M' ∧ Stp w w' b most M' F := by
  by_cases hM : M i = none
  · refine (adrop_no (i : Int) b most M F w h (fun _ => by simpa using hM)).mono ?_
    rintro e w' ⟨rfl, rfl⟩
    refine ⟨⟨4, rfl⟩, M, ?_, Stp.refl h⟩
    have : release M i = (M, []) := by unfold release; rw [hM]
    exact Drops.step (t := []) (by rw [this]; exact Drops.done M)
  · refine (adrop i b most M F w h hM hr).mono ?_
    rintro e w' ⟨rfl, M', hd, ha, hk⟩
    exact ⟨⟨0, rfl⟩, M', hd, ha, hk⟩
end

end Go.Proofs.YtacoingheieceaaGreat

/- Package pvec: renew: a cell is changed, in place or as a new one. -/
namespace Go.Proofs.YtacoingheieceaaGreat
set_option maxRecDepth 100000
open Go.RowKit

/-- What a cell has; nothing, if there is none. -/
def contC (M : Cells) (i : Nat) : Hc := match M i with
  | some (c, _) => c
  | none => ⟨0, 0, 0, [], []⟩
/-- One reference more of each. -/
def keepAll (M : Cells) : List Nat → Cells
  | [] => M
  | i :: l => keepAll (keepC M i) l
/-- A function that changes a cell's contents: called, wherever the captured lies as it lay, with rows of the caller's own. -/
def Chg (f : FuncId) (cap : Value) (F : Nat → Prop) (w : World) (g : Hc → Hc) (c : Hc) : Prop :=
  ∀ (o : Int) (v k : Value) (W : World), Kp F w W → W.ownsRow w.heap.size 43 3 v c.vals.length (c.vals.flatMap cells3) → W.ownsRow w.heap.size 3 1 k c.kids.length (nums (ns c.kids)) →
    Calls Tryz.prog f #[cagg o c.a c.b v k, cap] W fun e W' => ∃ v' k', e = .returned (cagg o (g c).a (g c).b v' k') ∧ Rd W' v' (g c).vals.length ((g c).vals.flatMap cells3) ∧ Rd W' k' (g c).kids.length (nums (ns (g c).kids)) ∧
      Kp (fun x => v.ownBlock = some x ∨ k.ownBlock = some x) W W' ∧ (∀ x, v'.ownBlock = some x → v.ownBlock = some x ∨ W.heap.size ≤ x) ∧ (∀ x, k'.ownBlock = some x → k.ownBlock = some x ∨ W.heap.size ≤ x)

/-- What renew makes of the arena. -/
def Renewed (M : Cells) (i : Nat) (ow : Int) (c : Hc) (most n : Nat) (M' : Cells) : Prop :=
  if aloneB M i ow = true then n = i ∧ M' = upd M i (some ({ c with owner := ow }, 1))
  else 1 ≤ n ∧ n ≤ most ∧ M n = none ∧ Drops (upd (keepAll M (contC M i).kids) n (some ({ c with owner := ow }, 1))) [i] M'

theorem keepC_rf {M : Cells} {i j : Nat} : rf (keepC M i j) ≤ rf (M j) + 1 := by
  unfold keepC
  cases hM : M i with
  | none => simp
  | some x =>
    by_cases e : j = i
    · subst e; show rf (upd M j (some (x.1, x.2 + 1)) j) ≤ _; rw [upd_same, hM]; exact Nat.le_refl _
    · show rf (upd M i (some (x.1, x.2 + 1)) j) ≤ _
      rw [upd_other _ _ e]; omega
theorem keepC_none {M : Cells} {i j : Nat} : keepC M i j = none ↔ M j = none := by
  unfold keepC
  cases hM : M i with
  | none => exact Iff.rfl
  | some x =>
    by_cases e : j = i
    · subst e; show upd M j (some (x.1, x.2 + 1)) j = none ↔ _; rw [upd_same, hM]; simp
    · show upd M i (some (x.1, x.2 + 1)) j = none ↔ _; rw [upd_other _ _ e]
theorem keepAll_none {j : Nat} : ∀ {l : List Nat} {M : Cells}, keepAll M l j = none ↔ M j = none
  | [], _ => Iff.rfl
  | i :: l, M => by show keepAll (keepC M i) l j = none ↔ _; rw [keepAll_none, keepC_none]
theorem keepAll_rf {j : Nat} : ∀ {l : List Nat} {M : Cells}, rf (keepAll M l j) ≤ rf (M j) + l.length
  | [], _ => Nat.le_refl _
  | i :: l, M => by
    show rf (keepAll (keepC M i) l j) ≤ _
    have h1 := keepAll_rf (j := j) (l := l) (M := keepC M i)
    have h2 := keepC_rf (M := M) (i := i) (j := j)
    simp only [List.length_cons]
    omega
theorem keepC_live {N : Nat} {M : Cells} {i : Nat} : live N (keepC M i) = live N M := by
  unfold live
  refine sumTo_congr N fun j _ => ?_
  cases e : keepC M i j with
  | none => rw [keepC_none.1 e]
  | some x =>
    cases e' : M j with
    | none => rw [keepC_none.2 e'] at e; cases e
    | some y => rfl
theorem keepAll_live {N : Nat} : ∀ {l : List Nat} {M : Cells}, live N (keepAll M l) = live N M
  | [], _ => rfl
  | i :: l, M => by show live N (keepAll (keepC M i) l) = _; rw [keepAll_live, keepC_live]
theorem keepAll_snoc (M : Cells) (i : Nat) : ∀ l, keepAll M (l ++ [i]) = keepC (keepAll M l) i := by
  intro l
  induction l generalizing M with
  | nil => rfl
  | cons j l ih => exact ih (keepC M j)

theorem aeditO (i : Nat) (o o' : Int) (c c0 c1 : Hc) (v k : Value) (b most : Nat) (M : Cells) (F : Nat → Prop) (w : World) (h : Ar w b most M F) (hi : M i = some (c0, 1)) (he : o = c0.owner) (ho : ¬ o = 0) (hc : { c with owner := o } = c1) (hv : Rd w v c.vals.length (c.vals.flatMap cells3)) (hk : Rd w k c.kids.length (nums (ns c.kids)))
    (nv : c.vals.length ≤ 4194304) (nk : c.kids.length ≤ 4194304) (hg : (ns c.kids).all (goodB M) = true) :
    Calls Tryz.prog 169 #[ap b, .int .i64 i, .int .u32 o, cagg o' c.a c.b v k] w fun e w' => e = .returned (.int .i64 0) ∧ Ar w' b most (upd M i (some (c1, 1))) (Fn F w w') ∧ Kp F w w' := by
  subst he hc
  exact aedit i { c with owner := o' } c0 v k b most M F w h hi ho hv hk nv nk hg

section
variable {b most : Nat} {M : Cells} {F : Nat → Prop}
set_option maxRecDepth 100000 in
set_option maxHeartbeats 1600000 in
/-- In place. -/
theorem vrenew_in (f : FuncId) (cap : Value) (g : Hc → Hc) (i : Nat) (ow : Int) (c0 : Hc) (w : World) (h : Ar w b most M F) (hf : ∀ (args : Array Value) (W : World), (callFunc f args).run Tryz.prog W = .ok (.enter f args) W) (hi : M i = some (c0, 1)) (ho : c0.owner = ow) (h0 : ¬ ow = 0) (hch : Chg f cap F w g c0)
    (nv : (g c0).vals.length ≤ 4194304) (nk : (g c0).kids.length ≤ 4194304) (hg : (ns (g c0).kids).all (goodB M) = true) :
    Calls Tryz.prog 143 #[ap b, .int .i64 i, .int .u32 ow, .func (.func f) #[] #[cap]] w fun e w' => e = .returned (.int .i64 i) ∧ Stp w w' b most (upd M i (some ({ g c0 with owner := ow }, 1))) F := by
  have hal : aloneB M i ow = true := by unfold aloneB; rw [hi]; simp [h0, ho]
  have HA := Lib.hid h
  have HI := Lib.hid hi
  have HC := Lib.hid hch
  clear h hi hch
  go_enter Tryz.func143, Tryz.ntmps143
  go_wp2_with fail
  refine (get i c0 1 b most M F _ HA.out HI.out).mono ?_
  rintro e w1 ⟨v, k, rfl, o1, o2, hb1⟩
  obtain ⟨A1, m1, rfl, _⟩ := (Rd.of_own o1).form
  obtain ⟨A2, m2, rfl, _⟩ := (Rd.of_own o2).form
  have O1 := Lib.hid o1
  have O2 := Lib.hid o2
  have B1 := Lib.hid hb1
  clear o1 o2 hb1
  go_wp2_with fail
  refine (valone i ow _ (HA.out.below (B1.out.alloc B1.out.size _))).mono ?_
  rintro e w2 ⟨rfl, hb2⟩
  rw [hal]
  have hkp := (Kp.of_below ((B1.out.alloc B1.out.size (.cells #[.int .u32 ow, .int .u32 c0.a, .int .u32 c0.b, .slice A1 c0.vals.length m1, .slice A2 c0.kids.length m2] 170)).trans (hb2.mono (B1.out.alloc B1.out.size _).size)) F)
  have hb12 : Below w1.heap.size w1 w2 := ((Below.refl _ w1).alloc (Nat.le_refl _) _).trans (hb2.mono (by simp))
  have q1 := (C5.new w1 170 (.int .u32 ow) (.int .u32 c0.a) (.int .u32 c0.b) (.slice A1 c0.vals.length m1) (.slice A2 c0.kids.length m2)).below hb2
  have O1' := Lib.hid ((Kp.of_below hb12 (fun _ => False)).own O1.out (fun _ _ => id))
  have O2' := Lib.hid ((Kp.of_below hb12 (fun _ => False)).own O2.out (fun _ _ => id))
  have HKP := Lib.hid hkp
  have HB2 := Lib.hid (B1.out.trans (hb12.mono B1.out.size))
  generalize w1.heap.size = z1 at q1 ⊢
  obtain ⟨c1, c2, c3, c4, c5, _⟩ := q1.all
  clear O1 O2 B1 hb2 hb12 hkp q1
  go_wp2_with fail
  refine (HC.out ow _ _ w2 HKP.out O1'.out O2'.out).mono ?_
  rintro e w3 ⟨v', k', rfl, r1, r2, hk3, hn1, hn2⟩
  obtain ⟨A3, m3, rfl, _⟩ := r1.form
  obtain ⟨A4, m4, rfl, _⟩ := r2.form
  have ha3 := Lib.hid ((HA.out.below HB2.out).kp hk3 (fun x hx e => by
    have := HA.out.lt hx
    rcases e with e | e
    · have := (O1'.out.lt x e).1; omega
    · have := (O2'.out.lt x e).1; omega))
  have hk13 := Lib.hid (HKP.out.trans hk3 (fun x e => by
    rcases e with e | e
    · exact .inr (O1'.out.lt x e).1
    · exact .inr (O2'.out.lt x e).1))
  have R1 := Lib.hid r1
  have R2 := Lib.hid r2
  clear r1 r2 hk3 hn1 hn2 c1 c2 c3 c4 c5
  go_wp2_with fail
  refine (aeditO i ow ow (g c0) c0 { g c0 with owner := ow } _ _ b most M F _ ha3.out HI.out ho.symm h0 rfl R1.out R2.out nv nk hg).mono ?_
  rintro e w4 ⟨rfl, ha4, hk4⟩
  have hst := Lib.hid (show Stp w w4 b most (upd M i (some ({ g c0 with owner := ow }, 1))) F from
    ⟨ha4.mono (fun x hx => hx.imp id (fun hx => ⟨Nat.le_trans hk13.out.size hx.1, hx.2⟩)) (fun x hx => hx.elim (fun hx => Nat.lt_of_lt_of_le (HA.out.lt hx) (Nat.le_trans hk13.out.size hk4.size)) (fun hx => hx.2)), hk13.out.trans hk4 (fun x hx => .inl hx)⟩)
  clear ha4 hk4
  go_wp2_with fail
  go_ret
  exact ⟨rfl, hst.out⟩

theorem goodB_keepAll {l : List Nat} (x : Int) : goodB (keepAll M l) x = goodB M x := by
  unfold goodB
  have : (keepAll M l x.toNat).isSome = (M x.toNat).isSome := by
    cases e : M x.toNat with
    | none => rw [keepAll_none.2 e]
    | some y =>
      cases e' : keepAll M l x.toNat with
      | none => rw [keepAll_none.1 e'] at e; cases e
      | some z => rfl
  rw [this]
/-- A cell's contents, or nothing. -/
theorem vget (i : Nat) (w : World) (h : Ar w b most M F) : Calls Tryz.prog 120 #[ap b, .int .i64 i] w fun e w' => ∃ v k, e = .returned (.tuple #[cagg (contC M i).owner (contC M i).a (contC M i).b v k, .bool (M i).isSome]) ∧
    w'.ownsRow w.heap.size 43 3 v (contC M i).vals.length ((contC M i).vals.flatMap cells3) ∧ w'.ownsRow w.heap.size 3 1 k (contC M i).kids.length (nums (ns (contC M i).kids)) ∧ Below w.heap.size w w' := by
  cases hM : M i with
  | none =>
    refine (get_no (i : Int) b most M F w h (fun _ => by simpa using hM)).mono ?_
    rintro e w' ⟨rfl, hb⟩
    unfold contC
    rw [hM]
    exact ⟨_, _, rfl, World.ownsRow_nil _ _ _ _, World.ownsRow_nil _ _ _ _, hb⟩
  | some x =>
    refine (get i x.1 x.2 b most M F w h hM).mono ?_
    rintro e w' ⟨v, k, rfl, o1, o2, hb⟩
    unfold contC
    rw [hM]
    exact ⟨v, k, rfl, o1, o2, hb⟩

/-- As a new cell: what stands while the others are kept. -/
structure Kept (w2 wr : World) (b most : Nat) (M : Cells) (F : Nat → Prop) (B z1 : Nat) (c : Hc) (v k : Value) (j : Nat) : Prop where
  st : Stp w2 wr b most (keepAll M (c.kids.take j)) F
  c5 : C5 wr z1 170 (.int .u32 c.owner) (.int .u32 c.a) (.int .u32 c.b) v k
  o1 : wr.ownsRow B 43 3 v c.vals.length (c.vals.flatMap cells3)
  o2 : wr.ownsRow B 3 1 k c.kids.length (nums (ns c.kids))

set_option maxRecDepth 100000 in
set_option maxHeartbeats 4000000 in
theorem vrenew_new (f : FuncId) (cap : Value) (g : Hc → Hc) (i : Nat) (ow : Int) (c0 : Hc) (w : World) (h : Ar w b most M F) (hf : ∀ (args : Array Value) (W : World), (callFunc f args).run Tryz.prog W = .ok (.enter f args) W) (hc0 : contC M i = c0) (hal : aloneB M i ow = false) (hch : Chg f cap F w g c0)
    (hroom : live (most + 1) M < most) (hr : ∀ j, rf (M j) + c0.kids.length ≤ 4611686018427387900) (nl : c0.kids.length ≤ 4194304) (nv : (g c0).vals.length ≤ 4194304) (nk : (g c0).kids.length ≤ 4194304) (hg : (ns (g c0).kids).all (goodB M) = true) :
    Calls Tryz.prog 143 #[ap b, .int .i64 i, .int .u32 ow, .func (.func f) #[] #[cap]] w fun e w' => ∃ n M', e = .returned (.int .i64 (n : Nat)) ∧ 1 ≤ n ∧ n ≤ most ∧ M n = none ∧ Drops (upd (keepAll M c0.kids) n (some ({ g c0 with owner := ow }, 1))) [i] M' ∧ Stp w w' b most M' F := by
  have HA := Lib.hid h
  have HC := Lib.hid hch
  have HR := Lib.hid hr
  clear h hch hr
  have hget := vget i w HA.out
  rw [hc0] at hget
  go_enter Tryz.func143, Tryz.ntmps143
  go_wp2_with fail
  refine hget.mono ?_
  rintro e w1 ⟨v, k, rfl, o1, o2, hb1⟩
  obtain ⟨A1, m1, rfl, _⟩ := (Rd.of_own o1).form
  obtain ⟨A2, m2, rfl, _⟩ := (Rd.of_own o2).form
  have O1 := Lib.hid o1
  have O2 := Lib.hid o2
  have B1 := Lib.hid hb1
  clear o1 o2 hb1 hget
  go_wp2_with fail
  refine (valone i ow _ (HA.out.below (B1.out.alloc B1.out.size _))).mono ?_
  rintro e w2 ⟨rfl, hb2⟩
  rw [hal]
  have hb12 : Below w1.heap.size w1 w2 := ((Below.refl _ w1).alloc (Nat.le_refl _) _).trans (hb2.mono (by simp))
  have q1 := (C5.new w1 170 (.int .u32 c0.owner) (.int .u32 c0.a) (.int .u32 c0.b) (.slice A1 c0.vals.length m1) (.slice A2 c0.kids.length m2)).below hb2
  have HB2 := Lib.hid (B1.out.trans (hb12.mono B1.out.size))
  have HZ := Lib.hid (show w.heap.size ≤ w1.heap.size ∧ w1.heap.size < w2.heap.size from ⟨B1.out.size, q1.lt⟩)
  have HK0 := Lib.hid (Kept.mk (w2 := w2) (wr := w2) (B := w.heap.size) (c := c0) (j := 0) (M := M) (b := b) (most := most) (F := F) (Stp.refl (HA.out.below HB2.out)) q1 ((Kp.of_below hb12 (fun _ => False)).own O1.out (fun _ _ => id)) ((Kp.of_below hb12 (fun _ => False)).own O2.out (fun _ _ => id)))
  have HF := Lib.hid (show ∀ x, F x → x < w.heap.size from fun x hx => HA.out.lt hx)
  generalize w1.heap.size = z1 at q1 HZ HK0 ⊢
  have HB1 := Lib.hid B1.out.size
  clear O1 O2 B1 hb2 hb12
  obtain ⟨c1, c2, c3, c4, c5, _⟩ := q1.all
  clear q1
  go_wp2_with fail
  clear c1 c2 c3 c4 c5
  go_loopg [36] c0.kids.length (fun c' iv wr => ∃ j : Nat, j + c' = c0.kids.length ∧ iv = .int .i64 j ∧ Kept w2 wr b most M F w.heap.size z1 c0 (.slice A1 c0.vals.length m1) (.slice A2 c0.kids.length m2) j)
  case atStart => exact ⟨0, by omega, rfl, HK0.out⟩
  case round =>
    obtain ⟨j, hj, rfl, hK⟩ := hrel
    by_cases h1 : j < c0.kids.length
    · obtain ⟨x, hx⟩ : ∃ x, c0.kids[j]? = some x := ⟨_, List.getElem?_eq_getElem h1⟩
      obtain ⟨gx, cx, e, _, hcell, _⟩ := own_at hK.o2 (j := j) (u := .int .i64 (x : Int)) (by rw [nums_at]; unfold ns; rw [List.getElem?_map, hx]; rfl)
      simp only [Value.slice.injEq, true_and] at e
      obtain ⟨rfl, rfl⟩ := e
      have HK := Lib.hid hK
      have HX := Lib.hid hx
      clear hK hx
      have y3 : (0 : Int) ≤ (j : Int) := by omega
      have y4 : (j : Int) < (c0.kids.length : Int) := by omega
      have hrx : rf (keepAll M (c0.kids.take j) x) ≤ 4611686018427387904 := by
        have h1 := keepAll_rf (j := x) (l := c0.kids.take j) (M := M)
        have h2 := HR.out x
        rw [List.length_take] at h1
        omega
      go_wp2_with (go_at_call 66; refine (vkeep1 x _ HK.out.st.ar hrx).mono ?_; rintro e w3 ⟨⟨zz, rfl⟩, hs⟩; have HS := Lib.hid hs; clear hs)
      go_roundg (c0.kids.length - (j + 1))
      case measure => omega
      case rel =>
        refine ⟨j + 1, by omega, by go_num, ?_, HK.out.c5.kp HS.out.kp ?_, HS.out.kp.own HK.out.o1 (fun q hq hf' => ?_), HS.out.kp.own HK.out.o2 (fun q hq hf' => ?_)⟩
        · rw [List.take_add_one, HX.out, Option.toList_some, keepAll_snoc]
          exact HK.out.st.trans HS.out
        · rintro (hf' | hf')
          · have := HF.out _ hf'; have := HZ.out; omega
          · have := HZ.out; omega
        · have h1 := (HK0.out.o1.lt q hq)
          rcases hf' with hf' | hf'
          · have := HF.out _ hf'; omega
          · omega
        · have h1 := (HK0.out.o2.lt q hq)
          rcases hf' with hf' | hf'
          · have := HF.out _ hf'; omega
          · omega
    · obtain rfl : j = c0.kids.length := by omega
      have HK := Lib.hid hK
      clear hK
      obtain ⟨c1, c2, c3, c4, c5, f1, _⟩ := HK.out.c5.all
      have hzn : ¬ Fn F w2 wr z1 := by
        rintro (hf' | hf')
        · have := HF.out _ hf'; have := HZ.out; omega
        · have := HZ.out; omega
      have hvn : ∀ q, (Value.slice A1 c0.vals.length m1).ownBlock = some q → w.heap.size ≤ q ∧ ¬ Fn F w2 wr q := fun q hq => by
        have h1 := (HK0.out.o1.lt q hq)
        refine ⟨h1.1, ?_⟩
        rintro (hf' | hf')
        · have := HF.out _ hf'; omega
        · omega
      have hkn : ∀ q, (Value.slice A2 c0.kids.length m2).ownBlock = some q → w.heap.size ≤ q ∧ ¬ Fn F w2 wr q := fun q hq => by
        have h1 := (HK0.out.o2.lt q hq)
        refine ⟨h1.1, ?_⟩
        rintro (hf' | hf')
        · have := HF.out _ hf'; omega
        · omega
      have HVN := Lib.hid hvn
      have HKN := Lib.hid hkn
      have kz := Kp.one wr z1 0 (.int .u32 ow)
      have hz1 : w.heap.size ≤ z1 := by have := HZ.out; omega
      have kw := ((Kp.of_below HB2.out F).trans HK.out.st.kp (fun _ => .inl)).trans kz (fun q e => .inr (e ▸ hz1))
      have p1 := Lib.hid (kz.own HK.out.o1 (own_ne HK.out.o1 HK.out.c5 (by decide)))
      have p2 := Lib.hid (kz.own HK.out.o2 (own_ne HK.out.o2 HK.out.c5 (by decide)))
      have KW := Lib.hid kw
      have AW := Lib.hid (HK.out.st.ar.kp kz (fun q hq e => hzn (e ▸ hq)))
      clear kz kw hvn hkn
      go_wp2_with fail
      generalize wr.setCell ⟨z1, 0, none⟩ (.int .u32 ow) = w3 at p1 p2 KW AW ⊢
      refine (HC.out ow _ _ w3 KW.out p1.out p2.out).mono ?_
      rintro e w4 ⟨v', k', rfl, r1, r2, hk3, hn1, hn2⟩
      obtain ⟨A3, m3, rfl, _⟩ := r1.form
      obtain ⟨A4, m4, rfl, _⟩ := r2.form
      have hs3 : ∀ q, Fn F w2 wr q → q < w3.heap.size := fun q hq => AW.out.lt hq
      have AW4 := Lib.hid (AW.out.kp hk3 (fun q hq e => e.elim (fun e => (HVN.out q e).2 hq) (fun e => (HKN.out q e).2 hq)))
      have KW4 := Lib.hid (KW.out.trans hk3 (fun q e => .inr (e.elim (fun e => (HVN.out q e).1) (fun e => (HKN.out q e).1))))
      have N1 := Lib.hid (show ∀ q, (Value.slice A3 (g c0).vals.length m3).ownBlock = some q → ¬ Fn F w2 wr q from fun q hq hf' => by
        rcases hn1 q hq with e | e
        · exact (HVN.out q e).2 hf'
        · have := hs3 q hf'; omega)
      have N2 := Lib.hid (show ∀ q, (Value.slice A4 (g c0).kids.length m4).ownBlock = some q → ¬ Fn F w2 wr q from fun q hq hf' => by
        rcases hn2 q hq with e | e
        · exact (HKN.out q e).2 hf'
        · have := hs3 q hf'; omega)
      have R1 := Lib.hid r1
      have R2 := Lib.hid r2
      have hlv : live (most + 1) (keepAll M (c0.kids.take c0.kids.length)) < most := by rw [keepAll_live]; exact hroom
      have hgd : (ns (g c0).kids).all (goodB (keepAll M (c0.kids.take c0.kids.length))) = true := by
        rw [← hg]
        congr 1
        funext q
        exact goodB_keepAll q
      clear r1 r2 hk3 hn1 hn2 c1 c2 c3 c4 c5 f1 hs3
      go_wp2_with fail
      refine (amake { g c0 with owner := ow } _ _ b most _ _ _ AW4.out R1.out R2.out nv nk N1.out N2.out hgd hlv).mono ?_
      rintro e w5 ⟨n, rfl, n1, n2, n3, ha5, hk5⟩
      have A5 := Lib.hid ha5
      have K5 := Lib.hid (KW4.out.trans hk5 (fun q hq => by
        rcases hq with hq | hq
        · exact .inl hq
        · exact .inr (Nat.le_trans HB2.out.size hq.1)))
      have n3' := keepAll_none.1 n3
      have hr5 : ∀ q, rf (upd (keepAll M (c0.kids.take c0.kids.length)) n (some ({ g c0 with owner := ow }, 1)) q) ≤ 4611686018427387904 := fun q => by
        by_cases e : q = n
        · subst e; rw [upd_same]; show 1 ≤ _; decide
        · rw [upd_other _ _ e]
          have h1 := keepAll_rf (j := q) (l := c0.kids.take c0.kids.length) (M := M)
          have h2 := HR.out q
          rw [List.length_take] at h1
          omega
      have hsz := Lib.hid (show w.heap.size ≤ w2.heap.size ∧ w2.heap.size ≤ wr.heap.size from ⟨HB2.out.size, HK.out.st.kp.size⟩)
      have hsz4 := Lib.hid (KW4.out.size)
      clear ha5 hk5 n3
      go_wp2_with fail
      refine (vdrop1 i _ A5.out hr5).mono ?_
      rintro e w6 ⟨⟨zz, rfl⟩, M', hd, hs6⟩
      have HD := Lib.hid hd
      have HE := Lib.hid (show Stp w w6 b most M' F from ⟨hs6.ar.mono (fun q hq => by
        rcases hq with ((hq | hq) | hq) | hq
        · exact .inl hq
        · exact .inr ⟨Nat.le_trans hsz.out.1 hq.1, Nat.lt_of_lt_of_le (A5.out.lt (.inl (.inr hq))) hs6.kp.size⟩
        · exact .inr ⟨Nat.le_trans hsz4.out hq.1, Nat.lt_of_lt_of_le hq.2 hs6.kp.size⟩
        · exact .inr ⟨Nat.le_trans K5.out.size hq.1, hq.2⟩) (fun q hq => hq.elim (fun hq => Nat.lt_of_lt_of_le (HF.out q hq) (Nat.le_trans K5.out.size hs6.kp.size)) (fun hq => hq.2)), K5.out.trans hs6.kp (fun q hq => by
        rcases hq with (hq | hq) | hq
        · exact .inl hq
        · exact .inr (Nat.le_trans hsz.out.1 hq.1)
        · exact .inr (Nat.le_trans hsz4.out hq.1))⟩)
      clear hd hs6
      go_wp2_with fail
      go_ret
      rw [List.take_length] at HD
      exact ⟨n, M', rfl, n1, n2, n3', HD.out, HE.out⟩
end

end Go.Proofs.YtacoingheieceaaGreat

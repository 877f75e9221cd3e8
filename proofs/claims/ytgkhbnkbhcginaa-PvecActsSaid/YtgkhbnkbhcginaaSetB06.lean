/- Package pvec: Set, whoever owns what, by the books. -/
import Derived.Test.YtgkhbnkbhcginaaVecB06
import Derived.Test.YtgkhbnkbhcginaaSetK06
import Derived.Test.YtgkhbnkbhcginaaShareKid06
namespace Go.Proofs.Ytgkhbnkbhcginaa
open Go.RowKit

theorem ChgS.mono {f : FuncId} {caps : Array Value} {b most : Nat} {F : Nat → Prop} {w : World} {M1 : Cells} {c : Hc} {R R' : Hc → Cells → Prop} (h : ChgS f caps b most F w M1 c R) (hR : ∀ c' M2, R c' M2 → R' c' M2) : ChgS f caps b most F w M1 c R' := by
  intro o v k W F1 h1 h2 h3 h4 h5
  refine (h o v k W F1 h1 h2 h3 h4 h5).mono ?_
  rintro e W' ⟨v', k', c', M2, F2, a1, a2, a3, a4, a5, a6, a7⟩
  exact ⟨v', k', c', M2, F2, a1, a2, a3, a4, a5, a6, hR _ _ a7⟩
theorem fresh1 {M : Cells} {ow : Int} {i : Nat} : freshN M ow [i] = if aloneB M i ow = true then 0 else 1 := rfl
theorem fresh2 {M : Cells} {ow : Int} {i j : Nat} : freshN M ow [i, j] = if aloneB M i ow = true then (if aloneB M j ow = true then 0 else 1) else 2 := rfl
theorem outP_lt {P : Nat → Nat} {v : Vc} {ow : Int} {B : Nat} (h : ∀ j, P j ≤ B) (j : Nat) : outP P v ow j ≤ B + 2 := by
  have := h j
  unfold outP addP
  split
  · show P j + _ + _ ≤ _
    split <;> split <;> omega
  · omega
theorem addP_lt {P : Nat → Nat} {B : Nat} (h : ∀ j, P j ≤ B) (i j : Nat) : addP P i j ≤ B + 1 := by
  have := h j
  unfold addP
  split <;> omega
theorem count_erase_set : ∀ (l : List Nat) (j a b k : Nat), l[j]? = some a → l.count k = (l.eraseIdx j).count k + [a].count k ∧ (l.set j b).count k = (l.eraseIdx j).count k + [b].count k
  | [], _, _, _, _, h => by simp at h
  | x :: l, 0, a, b, k, h => by
    obtain rfl : x = a := by simpa using h
    simp only [List.eraseIdx_zero, List.tail_cons, List.set_cons_zero, List.count_cons, List.count_nil]
    omega
  | x :: l, j + 1, a, b, k, h => by
    have ih := count_erase_set l j a b k (by simpa using h)
    simp only [List.eraseIdx_cons_succ, List.set_cons_succ, List.count_cons, List.count_nil] at *
    omega

section
variable {b most : Nat} {M : Cells} {F : Nat → Prop} {P : Nat → Nat}
theorem bk_rf {hs : List Nat} (hm : most ≤ 1048576) (hP : ∀ j, P j ≤ 576460752303423488) (hb : Bk (most + 1) M [] P hs) (hl : hs.length ≤ 64) (j : Nat) : rf (M j) ≤ 4611686018420000000 := by
  have h1 := hb.rfb j
  have h2 := hP j
  have h3 : hs.count j ≤ 64 := Nat.le_trans List.count_le_length hl
  have h4 : (most + 1) * 64 ≤ 1048577 * 64 := Nat.mul_le_mul_right _ (by omega)
  omega
set_option maxHeartbeats 400000 in
theorem set_tail_bk (v : Vc) (l : Vs) (i : Nat) (x : Int × Int × ByteArray) (ow : Int) (w : World) (h : Ar w b most M F) (hm : most ≤ 1048576) (hP : ∀ j, P j ≤ 576460752303423488) (hb : Bk (most + 1) M [] P [v.root, v.tail]) (hv : VecIs M v l) (hi : i < l.length) (hq : i / 32 = (l.length - 1) / 32) (hroom : live (most + 1) M + 1 ≤ most) :
    Calls Try.prog 16 #[ap b, vagg v, .int .i64 i, xagg x, .int .u32 ow] w fun e w' => ∃ v' M', e = .returned (.tuple #[vagg v', .int .i64 0]) ∧ VRes most M P v ow 1 v' (l.set i x) M' ∧ Stp w w' b most M' F := by
  have hz := hb.zero
  have hle := hv.le
  have hb1 := (hb.begun ow).lend
  obtain ⟨ct, rt, t1, t3, t4⟩ := hv.tl (by rintro rfl; simp at hi)
  have hct : contC M v.tail = ct := by unfold contC; rw [t1]
  have hcl : ct.vals.length = min 32 (l.length - 32 * ((l.length - 1) / 32)) := by rw [t3, chunk_length]
  have hlb : live (most + 1) (begun M v ow) = live (most + 1) M := begun_live
  refine (vSetW_tail v l i x ow (fun n M' => ∃ M1 H1, Ren most (begun M v ow) [] (addP (outP P v ow) v.root) ow (0 + if aloneB (begun M v ow) v.tail ow = true then 0 else 1) n M' { ct with vals := ct.vals.set (i % 32) x } M1 H1) w h hv hi hq (by rw [fresh1]; split <;> omega) (bk_rf hm hP hb (by show 2 ≤ 64; decide)) ?_).mono ?_
  · intro W F1 z8 z7 hRn hc8 hc7 n8 n7
    refine (renewB 49 #[.pointer (some ⟨z8, 0, none⟩), .pointer (some ⟨z7, 0, none⟩)] v.tail ow ct 0 (fun M1 _ c' M2 => c' = { ct with vals := ct.vals.set (i % 32) x } ∧ M2 = M1) W hRn.ar (fun args W => by kernel_rfl) hm (fun _ => Nat.le_refl _) (fun j => Nat.le_trans (addP_lt (outP_lt hP) _ j) (by decide)) hb1 (begun_cont.trans hct) (by rw [hlb]; split <;> omega) (fun M1 H1 hw => ?_)).mono ?_
    · refine (chgS_put x i z8 z7 W hc8 hc7 n8 n7 ct (by omega) (by omega)).mono ?_
      rintro c' M2 ⟨rfl, rfl⟩
      exact ⟨hw.bk, Keeps.refl _ _, fun _ _ => rfl, Nat.le_refl _, by show (ct.vals.set (i % 32) x).length ≤ _; rw [List.length_set]; omega, by show ct.kids.length ≤ _; rw [t4]; exact Nat.zero_le _, rfl, rfl⟩
    · rintro e W' ⟨n, M', rfl, hs, M1, H1, c', M2, hw, ⟨rfl, rfl⟩, hr⟩
      exact ⟨n, M', rfl, ⟨M2, H1, hr⟩, hs⟩
  · rintro e w' ⟨n, M', rfl, ⟨M1, H1, hr⟩, hs⟩
    refine ⟨⟨v.n, v.root, n⟩, M', rfl, ?_, hs⟩
    have hkp := blank_keeps hr.keeps
    have hroot : v.root ≠ 0 → Pres M M' v.root := fun h0 => (pres_begun _).trans (hkp _ h0 (addP_self _ _))
    refine ⟨⟨by rw [List.length_set]; exact hv.n, by rw [List.length_set]; exact hv.le, fun e => ?_, fun _ => ?_, fun e => hv.r0 (by rw [List.length_set] at e; exact e), fun e => ?_⟩, hr.bk.lent, fun r h0 hp => (pres_begun _).trans (hkp r h0 (Nat.le_trans hp (addP_le _ _ _))), ?_⟩
    · have := congrArg List.length e
      rw [List.length_set] at this
      simp at this
      rw [this] at hi
      simp at hi
    · rw [List.length_set, ← hq]
      exact ⟨_, 1, hr.cell, by rw [chunk_set l x i hi, hq, ← t3], t4⟩
    · rw [List.length_set] at e
      obtain ⟨c, r, e1, e2, e3, e4⟩ := hv.rt e
      have n0 : v.root ≠ 0 := fun e0 => by rw [e0, hz] at e1; cases e1
      obtain ⟨r', e'⟩ := hroot n0 _ c r .refl e1
      refine ⟨c, r', e', e2, by rw [e3, List.length_set], fun k y hy => ?_⟩
      have hlf := e4 k y hy
      have hk : k < c.kids.length := (List.getElem?_eq_some_iff.1 hy).1
      rw [chunk_set_ne l x i k (by omega)]
      have hlf' := hlf
      obtain ⟨c2, r2, e5, _⟩ := hlf'
      exact hlf.pres ((hroot n0).kid e1 (List.mem_of_getElem? hy) (fun e0 => by rw [e0, hz] at e5; cases e5))
    · have h1 := hr.live
      split at h1 <;> omega

/-- What the leaf's renewal leaves, inside the trunk's. -/
structure KidRes (most : Nat) (M1 : Cells) (H1 : List Nat) (P1 : Nat → Nat) (cr cl : Hc) (j : Nat) (vs : Vs) (ow : Int) (q : Nat) (n2 : Nat) (M2 : Cells) : Prop where
  bk : Bk (most + 1) M2 H1 P1 (cr.kids.set j n2)
  pos : 1 ≤ n2
  cell : M2 n2 = some ({ { cl with vals := vs } with owner := ow }, 1)
  keeps : Keeps P1 (blank M1 H1) (blank M2 H1)
  others : ∀ y ∈ cr.kids.eraseIdx j, y ≠ 0 → Pres (blank M1 H1) (blank M2 H1) y
  holes : ∀ x ∈ H1, M2 x = M1 x
  live : live (most + 1) M2 ≤ Proofs.Ytgkhbnkbhcginaa.live (most + 1) M1 + q
set_option maxHeartbeats 800000 in
theorem set_kid_bk (v : Vc) (l : Vs) (i : Nat) (x : Int × Int × ByteArray) (ow : Int) (w : World) (h : Ar w b most M F) (hm : most ≤ 1048576) (hP : ∀ j, P j ≤ 576460752303423488) (hb : Bk (most + 1) M [] P [v.root, v.tail]) (hv : VecIs M v l) (hi : i < l.length) (hq : ¬ i / 32 = (l.length - 1) / 32) (hroom : live (most + 1) M + 2 ≤ most) :
    Calls Try.prog 16 #[ap b, vagg v, .int .i64 i, xagg x, .int .u32 ow] w fun e w' => ∃ v' M', e = .returned (.tuple #[vagg v', .int .i64 0]) ∧ VRes most M P v ow 2 v' (l.set i x) M' ∧ Stp w w' b most M' F := by
  have hz := hb.zero
  have hle := hv.le
  have hbg := hb.begun ow
  have hb1 := hbg.swap.lend
  obtain ⟨cr, rr, r1, r2, r3, r4⟩ := hv.rt (by omega)
  have hcr : contC M v.root = cr := by unfold contC; rw [r1]
  have hil : i / 32 < cr.kids.length := by rw [r3]; omega
  obtain ⟨kid, hk⟩ : ∃ kid, cr.kids[i / 32]? = some kid := ⟨_, List.getElem?_eq_getElem hil⟩
  have hkm : kid ∈ cr.kids := List.mem_of_getElem? hk
  obtain ⟨cl, rl, k1, k3, k4⟩ := r4 _ _ hk
  have hk0 : kid ≠ 0 := fun e => by rw [e, hz] at k1; cases k1
  have hvl : cl.vals.length = min 32 (l.length - 32 * (i / 32)) := by rw [k3, chunk_length]
  have hlb : live (most + 1) (begun M v ow) = live (most + 1) M := begun_live
  have hal : ∀ j, aloneB (begun M v ow) j ow = aloneB M j ow := fun j => begun_alone
  obtain ⟨P0, hP0⟩ : ∃ P0, P0 = addP (outP P v ow) v.tail := ⟨_, rfl⟩
  rw [← hP0] at hb1
  have hP0b : ∀ j, P0 j ≤ 576460752303423491 := fun j => by rw [hP0]; exact Nat.le_trans (addP_lt (outP_lt hP) _ j) (by decide)
  obtain ⟨q, hqd⟩ : ∃ q, q = if aloneB M v.root ow = true then (if aloneB M kid ow = true then 0 else 1) else 1 := ⟨_, rfl⟩
  have hq1 : q ≤ 1 := by rw [hqd]; split <;> (try split) <;> omega
  refine (vSetW_kid v l i kid x ow (fun n M' => ∃ M1 H1 n2 M2, Way1 most (begun M v ow) [] P0 v.root ow cr M1 H1 ∧ KidRes most M1 H1 (addP P0 v.root) cr cl (i / 32) (cl.vals.set (i % 32) x) ow q n2 M2 ∧
    Ren most (begun M v ow) [] P0 ow (q + if aloneB (begun M v ow) v.root ow = true then 0 else 1) n M' { cr with kids := cr.kids.set (i / 32) n2 } M2 H1) w h hv hi hq (fun c r e => by rw [r1] at e; simp only [Option.some.injEq, Prod.mk.injEq] at e; rw [← e.1]; exact hk) (by rw [fresh2]; split <;> (try split) <;> omega) (bk_rf hm hP hb (by show 2 ≤ 64; decide)) ?_).mono ?_
  · intro W F1 z5 z7 z8 z9 z15 hRn h5 h7 h8 h9 h15 nF
    refine (renewB 50 #[.pointer (some ⟨z5, 0, none⟩), .pointer (some ⟨z7, 0, none⟩), .pointer (some ⟨z9, 0, none⟩), .pointer (some ⟨z15, 0, none⟩)] v.root ow cr q
      (fun M1 H1 c' M2 => ∃ n2, KidRes most M1 H1 (addP P0 v.root) cr cl (i / 32) (cl.vals.set (i % 32) x) ow q n2 M2 ∧ c' = { cr with kids := cr.kids.set (i / 32) n2 }) W hRn.ar (fun args W => by kernel_rfl) hm (fun _ => Nat.le_refl _) (fun j => Nat.le_trans (hP0b j) (by decide)) hb1 (begun_cont.trans hcr) (by rw [hlb]; split <;> omega) (fun M1 H1 hw => ?_)).mono ?_
    · -- what the leaf has, behind the way
      have hkH : kid ∉ H1 := (hw.bk.hand hkm hk0).2
      have hkc : ∃ r', M1 kid = some (cl, r') := by
        have hpk := hw.kids kid hkm hk0
        rw [blank_nil] at hpk
        obtain ⟨r', e'⟩ := (pres_begun (v := v) (ow := ow) kid) kid cl rl .refl k1
        obtain ⟨r2', e2⟩ := hpk kid cl r' .refl e'
        rw [blank_out hkH] at e2
        exact ⟨r2', e2⟩
      obtain ⟨rk, hkc⟩ := hkc
      have hcl : contC M1 kid = cl := by unfold contC; rw [hkc]
      obtain ⟨P1, hP1⟩ : ∃ P1 : Nat → Nat, P1 = fun k => addP P0 v.root k + (cr.kids.eraseIdx (i / 32)).count k := ⟨_, rfl⟩
      have hb2 : Bk (most + 1) M1 H1 P1 [kid] := hw.bk.move (fun k _ => by rw [hP1, (count_erase_set cr.kids (i / 32) kid 0 k hk).1]; show _ = addP P0 v.root k + _ + _; omega) (fun y hy => by rw [hP1]; exact Nat.le_trans (hw.bk.hole y hy).1 (Nat.le_add_right _ _))
      have hP1b : ∀ j, P1 j ≤ 1152921504606846976 := fun j => by
        have h1 := addP_lt hP0b v.root j
        have h2 : (cr.kids.eraseIdx (i / 32)).count j ≤ cr.kids.length := Nat.le_trans List.count_le_length (List.length_eraseIdx_le _ _)
        rw [hP1]
        show addP P0 v.root j + _ ≤ _
        omega
      have hq2 : (if aloneB M1 kid ow = true then 0 else 1) ≤ q := by
        rcases hw.way with ⟨a1, a2, _⟩ | ⟨a1, _, _⟩
        · rw [a2, hal]; rw [hal] at a1; rw [hqd, if_pos a1]; exact Nat.le_refl _
        · rw [hal] at a1
          have e1 : q = 1 := by rw [hqd, a1]; rfl
          rw [e1]
          split <;> omega
      refine (chgS_kid (M1 := M1) (F := F1) (most := most) (b := b) i z7 z5 z9 z15 kid ow _ (fun n2 M2 => KidRes most M1 H1 (addP P0 v.root) cr cl (i / 32) (cl.vals.set (i % 32) x) ow q n2 M2) W h7 h5 h9 h15 (fun z hz => nF z (by rcases hz with e | e | e | e <;> simp [e])) cr hk (by omega) ?_).mono ?_
      · intro W1 F2 hRn1
        refine (renewB 49 #[.pointer (some ⟨z8, 0, none⟩), .pointer (some ⟨z7, 0, none⟩)] kid ow cl 0 (fun M2 _ c' M3 => c' = { cl with vals := cl.vals.set (i % 32) x } ∧ M3 = M2) W1 hRn1.ar (fun args W => by kernel_rfl) hm (fun _ => Nat.le_refl _) hP1b hb2 hcl (by have := hw.live; rw [hlb] at this; omega) (fun M2 H2 hw2 => ?_)).mono ?_
        · have l8 := h8.lt
          have l7 : z7 < W.heap.size := World.block_lt_of_cell? W _ h7
          refine (chgS_put x i z8 z7 W1 (h8.kp hRn1.kp (nF z8 (by simp))) (hRn1.kp.cell h7 (nF z7 (by simp))) (fun hf => (hRn1.sub _ hf).elim (nF z8 (by simp)) (fun e => by omega)) (fun hf => (hRn1.sub _ hf).elim (nF z7 (by simp)) (fun e => by omega)) cl (by omega) (by omega)).mono ?_
          rintro c' M3 ⟨rfl, rfl⟩
          exact ⟨hw2.bk, Keeps.refl _ _, fun _ _ => rfl, Nat.le_refl _, by show (cl.vals.set (i % 32) x).length ≤ _; rw [List.length_set]; omega, by show cl.kids.length ≤ _; rw [k4]; exact Nat.zero_le _, rfl, rfl⟩
        · rintro e W' ⟨n2, M', rfl, hs, Ma, Ha, c', Mb, hwa, ⟨rfl, rfl⟩, hr⟩
          refine ⟨n2, M', rfl, ⟨?_, hr.pos, hr.cell, hr.keeps.less (fun k => by rw [hP1]; exact Nat.le_add_right _ _), fun y hy h0 => hr.keeps y h0 (by rw [hP1]; show 1 ≤ addP P0 v.root y + _; have := List.count_pos_iff.2 hy; omega), hr.holes, by have := hr.live; omega⟩, hs⟩
          exact hr.bk.move (fun k _ => by rw [hP1, (count_erase_set cr.kids (i / 32) kid n2 k hk).2]; show addP P0 v.root k + _ + _ = _; omega) (fun y hy => (hw.bk.hole y hy).1)
      · rintro c' M2 ⟨n2, hkr, rfl⟩
        exact ⟨hkr.bk, hkr.keeps, hkr.holes, hkr.live, by show cr.vals.length ≤ _; rw [r2]; exact Nat.zero_le _, by show (cr.kids.set (i / 32) n2).length ≤ _; rw [List.length_set, r3]; omega, n2, hkr, rfl⟩
    · rintro e W' ⟨n, M', rfl, hs, M1, H1, c', M2, hw, ⟨n2, hkr, rfl⟩, hr⟩
      exact ⟨n, M', rfl, ⟨M1, H1, n2, M2, hw, hkr, hr⟩, hs⟩
  · rintro e w' ⟨n, M', rfl, ⟨M1, H1, n2, M2, hw, hkr, hr⟩, hs⟩
    refine ⟨⟨v.n, n, v.tail⟩, M', rfl, ?_, hs⟩
    have hkp := blank_keeps hr.keeps
    have hn2m : n2 ∈ cr.kids.set (i / 32) n2 := List.mem_of_getElem? (List.getElem?_set_self hil)
    have hbk : Bk (most + 1) M' [] (outP P v ow) [n, v.tail] := by
      have := hr.bk
      rw [hP0] at this
      exact this.lent.swap
    have htp : v.tail ≠ 0 → Pres M M' v.tail := fun h0 => (pres_begun _).trans (hkp _ h0 (by rw [hP0]; exact addP_self _ _))
    refine ⟨⟨by rw [List.length_set]; exact hv.n, by rw [List.length_set]; exact hv.le, fun e => ?_, fun _ => ?_, fun e => ?_, fun e => ?_⟩, hbk, fun r h0 hp => (pres_begun _).trans (hkp r h0 (by rw [hP0]; exact Nat.le_trans hp (addP_le _ _ _))), ?_⟩
    · have := congrArg List.length e
      rw [List.length_set] at this
      simp at this
      rw [this] at hi
      simp at hi
    · rw [List.length_set, chunk_set_ne l x i _ hq]
      have htl := hv.tl (by rintro rfl; simp at hi)
      have htl' := htl
      obtain ⟨c, r, e, _⟩ := htl'
      exact htl.pres (htp (fun e0 => by rw [e0, hz] at e; cases e))
    · rw [List.length_set] at e; omega
    · rw [List.length_set]
      refine ⟨_, 1, hr.cell, r2, by show (cr.kids.set (i / 32) n2).length = _; rw [List.length_set, r3], fun k y hy => ?_⟩
      have hy' : (cr.kids.set (i / 32) n2)[k]? = some y := hy
      by_cases ek : i / 32 = k
      · subst ek
        rw [List.getElem?_set_self hil] at hy'
        obtain rfl : n2 = y := by simpa using hy'
        rw [chunk_set l x i hi]
        have hnH : n2 ∉ H1 := (hkr.bk.hand hn2m (by have := hkr.pos; omega)).2
        obtain ⟨q', e'⟩ := hr.kids n2 hn2m (by have := hkr.pos; omega) n2 _ 1 .refl (by rw [blank_out hnH]; exact hkr.cell)
        rw [blank_nil] at e'
        exact ⟨_, q', e', by show cl.vals.set (i % 32) x = _; rw [k3], k4⟩
      · rw [List.getElem?_set_ne ek] at hy'
        have hlf := r4 k y hy'
        have hlf' := hlf
        obtain ⟨c2, r2', e5, _⟩ := hlf'
        have hy0 : y ≠ 0 := fun e0 => by rw [e0, hz] at e5; cases e5
        rw [chunk_set_ne l x i k ek]
        have p0 : Pres M (begun M v ow) y := pres_begun y
        have p1 := hw.kids y (List.mem_of_getElem? hy') hy0
        have p2 := hkr.others y (List.mem_eraseIdx_iff_getElem?.2 ⟨k, fun e => ek e.symm, hy'⟩) hy0
        have p3 := hr.kids y (List.mem_of_getElem? (by rw [List.getElem?_set_ne ek]; exact hy')) hy0
        have p13 := (p1.trans p2).trans p3
        rw [blank_nil, blank_nil] at p13
        exact hlf.pres (p0.trans p13)
    · have h1 := hr.live
      split at h1 <;> omega
end

end Go.Proofs.Ytgkhbnkbhcginaa

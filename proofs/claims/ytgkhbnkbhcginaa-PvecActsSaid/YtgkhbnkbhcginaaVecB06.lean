/- Vectors by the books: what a change of a vector leaves of it, and of all others. Plainly. -/
import Derived.Test.YtgkhbnkbhcginaaCell06
import Derived.Test.YtgkhbnkbhcginaaMine06
namespace Go.Proofs.Ytgkhbnkbhcginaa
open Go.RowKit

section
variable {most n i : Nat} {M M' : Cells} {H : List Nat} {P : Nat → Nat} {ow : Int} {c0 c' : Hc} {v : Vc} {l : Vs}
theorem Leaf.pres {x : Nat} {vs : Vs} (h : Leaf M x vs) (hp : Pres M M' x) : Leaf M' x vs := by
  obtain ⟨c, r, e, h1, h2⟩ := h
  obtain ⟨r', e'⟩ := hp x c r .refl e
  exact ⟨c, r', e', h1, h2⟩
theorem VecIs.pres (hv : VecIs M v l) (hz : M 0 = none) (h1 : v.root ≠ 0 → Pres M M' v.root) (h2 : v.tail ≠ 0 → Pres M M' v.tail) : VecIs M' v l := by
  have n0 : ∀ {x : Nat} {y : Hc × Nat}, M x = some y → x ≠ 0 := fun e e0 => by rw [e0, hz] at e; cases e
  refine ⟨hv.n, hv.le, hv.nil, fun e => ?_, hv.r0, fun e => ?_⟩
  · have hl := hv.tl e
    have hl' := hl
    obtain ⟨c, r, e1, _⟩ := hl'
    exact hl.pres (h2 (n0 e1))
  · obtain ⟨c, r, e1, e2, e3, e4⟩ := hv.rt e
    have hp := h1 (n0 e1)
    obtain ⟨r', e'⟩ := hp _ c r .refl e1
    refine ⟨c, r', e', e2, e3, fun k x hx => ?_⟩
    have hl := e4 k x hx
    have hl' := hl
    obtain ⟨c', r', e5, _⟩ := hl'
    exact hl.pres (hp.kid e1 (List.mem_of_getElem? hx) (n0 e5))
/-- Cell with a function that leaves the arena alone, by the books. -/
theorem Renewed.renK {P0 : Nat → Nat} (h : Renewed M i ow c' most n M') (hb : Bk (most + 1) M H P0 [i]) (hKP : ∀ M1 H1, Way1 most M H P0 i ow c0 M1 H1 → Keeps P (blank M H) (blank M1 H1)) (hPi : aloneB M i ow = true → P i = 0) (hc0 : contC M i = c0) (hk : ∀ M1 H1, Way1 most M H P0 i ow c0 M1 H1 → Bk (most + 1) M1 H1 (addP P i) c'.kids) (nv : c'.vals.length ≤ 4194304) (nk : c'.kids.length ≤ 64) :
    ∃ M1 H1, Way1 most M H P0 i ow c0 M1 H1 ∧ Ren most M H P ow (if aloneB M i ow = true then 0 else 1) n M' c' M1 H1 := by
  unfold Renewed at h
  cases hal : aloneB M i ow with
  | true =>
    rw [if_pos hal] at h
    obtain ⟨rfl, rfl⟩ := h
    obtain ⟨c, hM, _, _⟩ := alone_cell hal
    have e0 : c = c0 := by rw [← hc0]; unfold contC; rw [hM]
    subst e0
    have hw := way_in hb hM hal
    refine ⟨M, n :: H, hw, ?_⟩
    exact ren_in hb (hKP _ _ hw) (hPi hal) hM (Q := fun _ _ => True) ⟨hk _ _ hw, Keeps.refl _ _, fun _ _ => rfl, Nat.le_refl _, nv, nk, trivial⟩
  | false =>
    rw [if_neg (by rw [hal]; simp), hc0] at h
    obtain ⟨n1, n2, n3, hd⟩ := h
    have hw := way_new hb hc0 hal
    refine ⟨_, H, hw, ?_⟩
    refine ren_new hb (hKP _ _ hw) hw (Q := fun _ _ => True) ⟨hk _ _ hw, Keeps.refl _ _, fun _ _ => rfl, Nat.le_refl _, nv, nk, trivial⟩ (fun x hx => ?_) n1 n2 (keepAll_none.2 n3) hd
    have h1 := (hw.bk.hole x hx).2
    have h2 := (hb.hole x hx).2
    obtain ⟨y, e⟩ : ∃ y, M x = some y := by
      cases e : M x with
      | none => rw [e] at h2; simp [rf] at h2
      | some y => exact ⟨y, rfl⟩
    obtain ⟨q', e'⟩ := all_keepAll (l := c0.kids) x y.1 y.2 e
    rw [e'] at h1
    rw [e] at h2
    simp only [rf] at h1 h2
    rw [e', e, h1, ← h2]

theorem Renewed.ren {P0 : Nat → Nat} (h : Renewed M i ow c' most n M') (hb : Bk (most + 1) M H P0 [i]) (hPP : ∀ k, P k ≤ P0 k) (hc0 : contC M i = c0) (hk : ∀ M1 H1, Way1 most M H P0 i ow c0 M1 H1 → Bk (most + 1) M1 H1 (addP P i) c'.kids) (nv : c'.vals.length ≤ 4194304) (nk : c'.kids.length ≤ 64) :
    ∃ M1 H1, Way1 most M H P0 i ow c0 M1 H1 ∧ Ren most M H P ow (if aloneB M i ow = true then 0 else 1) n M' c' M1 H1 :=
  h.renK hb (fun _ _ hw => hw.keeps.less hPP) (fun hal => by
    obtain ⟨c, hM, _⟩ := alone_cell hal
    have h1 := (alone_held hb hM).1
    have h2 := hPP i
    omega) hc0 hk nv nk

/-- What others hold while v is changed: without an owner v itself, too. -/
def outP (P : Nat → Nat) (v : Vc) (ow : Int) : Nat → Nat := if ow = 0 then addP (addP P v.root) v.tail else P
theorem outP_le (P : Nat → Nat) (v : Vc) (ow : Int) (k : Nat) : P k ≤ outP P v ow k := by
  unfold outP
  split
  · exact Nat.le_trans (addP_le _ _ _) (addP_le _ _ _)
  · exact Nat.le_refl _
theorem count2 (a b k : Nat) : [a, b].count k = (if k = a then 1 else 0) + if k = b then 1 else 0 := by
  rw [List.count_cons, List.count_singleton]
  by_cases h1 : k = a
  · by_cases h2 : k = b
    · subst h1; subst h2; simp
    · rw [if_pos h1, if_neg h2, if_neg (by simpa using Ne.symm h2), if_pos (by simpa using h1.symm)]
  · by_cases h2 : k = b
    · rw [if_neg h1, if_pos h2, if_pos (by simpa using h2.symm), if_neg (by simpa using Ne.symm h1)]
    · rw [if_neg h1, if_neg h2, if_neg (by simpa using Ne.symm h2), if_neg (by simpa using Ne.symm h1)]
theorem count_c (a k : Nat) (l : List Nat) : (a :: l).count k = l.count k + if k = a then 1 else 0 := by
  rw [List.count_cons]
  by_cases h1 : k = a
  · rw [if_pos h1, if_pos (by simpa using h1.symm)]
  · rw [if_neg h1, if_neg (by simpa using Ne.symm h1)]
theorem count1 (a k : Nat) : [a].count k = if k = a then 1 else 0 := by
  rw [List.count_singleton]
  by_cases h1 : k = a
  · rw [if_pos h1, if_pos (by simpa using h1.symm)]
  · rw [if_neg h1, if_neg (by simpa using Ne.symm h1)]
theorem pres_begun (r : Nat) : Pres M (begun M v ow) r := by
  unfold begun
  split
  · exact (Pres.all (all_keepC (i := v.root))).trans (Pres.all (all_keepC (i := v.tail)))
  · exact Pres.refl _ _
theorem Bk.begun {N : Nat} (h : Bk N M [] P [v.root, v.tail]) (ow : Int) : Bk N (begun M v ow) [] (outP P v ow) [v.root, v.tail] := by
  unfold Proofs.Ytgkhbnkbhcginaa.begun outP
  split
  · have h1 := h.keep (i := v.root) (fun h0 => h.hand (by simp) h0)
    have h2 := h1.keep (i := v.tail) (fun h0 => h1.hand (by simp) h0)
    refine h2.move (fun k _ => ?_) (fun x hx => by simp at hx)
    rw [show (v.tail :: v.root :: [v.root, v.tail]).count k = [v.root, v.tail].count k + [v.root, v.tail].count k from by simp only [List.count_cons, List.count_nil]; omega]
    rw [count2]
    unfold addP
    omega
  · exact h
/-- One of two holds is lent to the others. -/
theorem Bk.lend {N : Nat} {a b : Nat} (h : Bk N M [] P [a, b]) : Bk N M [] (addP P a) [b] := h.move (fun k _ => by rw [count2, count1]; unfold addP; omega) (fun x hx => by simp at hx)
theorem Bk.lent {N : Nat} {a b : Nat} (h : Bk N M [] (addP P a) [b]) : Bk N M [] P [a, b] := h.move (fun k _ => by rw [count2, count1]; unfold addP; omega) (fun x hx => by simp at hx)
theorem Bk.swap {N : Nat} {a b : Nat} (h : Bk N M [] P [a, b]) : Bk N M [] P [b, a] := h.perm fun k _ => by rw [count2, count2]; omega

/-- What a change of v leaves: v' has l'; all that others hold is as it was, v itself too if the change has no owner. -/
structure VRes (most : Nat) (M : Cells) (P : Nat → Nat) (v : Vc) (ow : Int) (k : Nat) (v' : Vc) (l' : Vs) (M' : Cells) : Prop where
  vec : VecIs M' v' l'
  bk : Bk (most + 1) M' [] (outP P v ow) [v'.root, v'.tail]
  keeps : Keeps (outP P v ow) M M'
  live : live (most + 1) M' ≤ Proofs.Ytgkhbnkbhcginaa.live (most + 1) M + k

theorem addP_self' (P : Nat → Nat) {a : Nat} : 1 ≤ addP P a a := addP_self P a
theorem blank_keeps {A B : Cells} (h : Keeps P (blank A []) (blank B [])) : Keeps P A B := by rwa [blank_nil, blank_nil] at h

/-- Push where the tail has room. -/
theorem push_tail_res {x : Int × Int × ByteArray} (hb : Bk (most + 1) M [] P [v.root, v.tail]) (hv : VecIs M v l) (hlt : l.length < 1024) (hnf : l.length = 0 ∨ l.length % 32 ≠ 0)
    (h : Renewed (begun M v ow) v.tail ow { contC M v.tail with vals := (contC M v.tail).vals ++ [x] } most n M') : VRes most M P v ow 1 ⟨v.n + 1, v.root, n⟩ (l ++ [x]) M' := by
  have hz := hb.zero
  have hb1 := (hb.begun ow).lend
  have hcl : (contC M v.tail).vals.length ≤ 32 ∧ (contC M v.tail).kids = [] ∧ (contC M v.tail).vals ++ [x] = chunk (l ++ [x]) (l.length / 32) := by
    by_cases h0 : l = []
    · subst h0
      have e : contC M v.tail = ⟨0, 0, 0, [], []⟩ := by unfold contC; rw [(hv.nil rfl).2, hz]
      rw [e]
      simp [chunk]
    · have hl0 : 0 < l.length := List.length_pos_iff.2 h0
      obtain ⟨c, r, e, e1, e2⟩ := hv.tl h0
      have ec : contC M v.tail = c := by unfold contC; rw [e]
      rw [ec]
      refine ⟨by rw [e1, chunk_length]; omega, e2, ?_⟩
      rw [e1, show (l.length - 1) / 32 = l.length / 32 by omega, chunk_last l x (l.length / 32) (by omega) (by omega)]
  obtain ⟨M1, H1, hw, hr⟩ := h.ren hb1 (fun _ => Nat.le_refl _) begun_cont (fun M1 H1 hw => hw.bk) (by show ((contC M v.tail).vals ++ [x]).length ≤ _; rw [List.length_append, List.length_singleton]; omega) (by show (contC M v.tail).kids.length ≤ _; rw [hcl.2.1]; exact Nat.zero_le _)
  have hkp := blank_keeps hr.keeps
  have hll : (l ++ [x]).length = l.length + 1 := by simp
  have hroot : v.root ≠ 0 → Pres M M' v.root := fun h0 => (pres_begun _).trans (hkp _ h0 (addP_self _ _))
  refine ⟨⟨by rw [hll]; show v.n + 1 = _; rw [hv.n], by omega, fun e => by simp at e, fun _ => ?_, fun e => hv.r0 (by omega), fun e => ?_⟩, hr.bk.lent, fun r h0 hp => (pres_begun _).trans (hkp r h0 (Nat.le_trans hp (addP_le _ _ _))), ?_⟩
  · rw [hll, Nat.add_sub_cancel]
    exact ⟨_, 1, hr.cell, hcl.2.2, hcl.2.1⟩
  · obtain ⟨c, r, e1, e2, e3, e4⟩ := hv.rt (by omega)
    have n0 : v.root ≠ 0 := fun e0 => by rw [e0, hz] at e1; cases e1
    obtain ⟨r', e'⟩ := hroot n0 _ c r .refl e1
    refine ⟨c, r', e', e2, by rw [e3, hll]; omega, fun k y hy => ?_⟩
    have hlf := e4 k y hy
    have hk : k < c.kids.length := (List.getElem?_eq_some_iff.1 hy).1
    rw [chunk_old l x k (by omega)]
    have hlf' := hlf
    obtain ⟨c2, r2, e5, _⟩ := hlf'
    exact hlf.pres ((hroot n0).kid e1 (List.mem_of_getElem? hy) (fun e0 => by rw [e0, hz] at e5; cases e5))
  · have h1 := hr.live
    have h2 : live (most + 1) (begun M v ow) = live (most + 1) M := begun_live
    split at h1 <;> omega

theorem way_hole {P0 : Nat → Nat} {M1 : Cells} {H1 : List Nat} (h : Way1 most M [] P0 i ow c0 M1 H1) : ∀ x ∈ H1, x = i := fun x hx => by
  rcases h.way with ⟨_, _, e⟩ | ⟨_, _, e⟩
  · rw [e] at hx; simpa using hx
  · rw [e] at hx; simp at hx
theorem chunk_next (l : Vs) (x : Int × Int × ByteArray) (h : l.length % 32 = 0) : chunk (l ++ [x]) (l.length / 32) = [x] := by
  unfold chunk
  rw [show 32 * (l.length / 32) = l.length by omega, List.drop_left]
  rfl
/-- Push where the tail is full. -/
theorem push_full_res {x : Int × Int × ByteArray} {r : Nat} {M1 : Cells} (hb : Bk (most + 1) M [] P [v.root, v.tail]) (hv : VecIs M v l) (hlt : l.length < 1024) (hnf : 0 < l.length ∧ l.length % 32 = 0)
    (h : Renewed (begun M v ow) v.root ow { contC M v.root with kids := (contC M v.root).kids ++ [v.tail] } most r M1) (h2 : Renewed M1 0 ow ⟨0, 0, 0, [x], []⟩ most n M') : VRes most M P v ow 2 ⟨v.n + 1, r, n⟩ (l ++ [x]) M' := by
  have hz := hb.zero
  have hbg := hb.begun ow
  have hb1 := hbg.swap.lend
  have hzb : begun M v ow 0 = none := hbg.zero
  -- the trunk as it was
  have hcr : (contC M v.root).vals = [] ∧ (contC M v.root).kids.length = (l.length - 1) / 32 ∧ ∀ k y, (contC M v.root).kids[k]? = some y → Leaf M y (chunk l k) := by
    by_cases h32 : 32 < l.length
    · obtain ⟨c, q, e1, e2, e3, e4⟩ := hv.rt h32
      have ec : contC M v.root = c := by unfold contC; rw [e1]
      rw [ec]
      exact ⟨e2, e3, e4⟩
    · have e : contC M v.root = ⟨0, 0, 0, [], []⟩ := by unfold contC; rw [hv.r0 (by omega), hz]
      rw [e]
      refine ⟨rfl, ?_, fun k y hy => by simp at hy⟩
      show 0 = _
      omega
  have htl := hv.tl (by rintro rfl; simp at hnf)
  have ht0 : v.tail ≠ 0 := fun e0 => by
    obtain ⟨c, q, e, _⟩ := htl
    rw [e0, hz] at e
    cases e
  obtain ⟨Mw, Hw, hw, hr⟩ := h.ren hb1 (fun k => addP_le _ _ k) begun_cont (fun M1 H1 hw => hw.bk.move (fun k _ => by
    show addP (addP (outP P v ow) v.tail) v.root k + (contC M v.root).kids.count k = addP (outP P v ow) v.root k + ((contC M v.root).kids ++ [v.tail]).count k
    rw [List.count_append, count1]
    unfold addP
    omega) (fun y hy => by rw [way_hole hw y hy]; exact addP_self _ _)) (by show (contC M v.root).vals.length ≤ _; rw [hcr.1]; exact Nat.zero_le _)
    (by show ((contC M v.root).kids ++ [v.tail]).length ≤ _; rw [List.length_append, hcr.2.1, List.length_singleton]; omega)
  have hkp := blank_keeps hr.keeps
  have hM10 : M1 0 = none := hr.bk.zero
  have hc1 : contC M1 0 = ⟨0, 0, 0, [], []⟩ := by unfold contC; rw [hM10]
  have hb2 : Bk (most + 1) M1 [] (addP (outP P v ow) r) [0] := (hr.bk.perm (hs' := [r, 0]) fun k hk => by rw [count1, count2, if_neg (show ¬ k = 0 by omega)]; rfl).lend
  obtain ⟨Mw2, Hw2, hw2, hr2⟩ := h2.ren hb2 (fun _ => Nat.le_refl _) hc1 (fun M2 H2 hw2 => hw2.bk) (by show 1 ≤ _; decide) (Nat.zero_le _)
  have hkp2 := blank_keeps hr2.keeps
  have hpr : Pres M1 M' r := hkp2 r (by have := hr.pos; omega) (addP_self _ _)
  obtain ⟨q', hcell⟩ := hpr r _ 1 .refl hr.cell
  have hll : (l ++ [x]).length = l.length + 1 := by simp
  -- the leaves, from the beginning to the end
  have hleaf : ∀ y ∈ (contC M v.root).kids ++ [v.tail], ∀ vs, Leaf M y vs → Leaf M' y vs := fun y hy vs hl => by
    have hy0 : y ≠ 0 := fun e0 => by
      obtain ⟨c, q, e, _⟩ := hl
      rw [e0, hz] at e
      cases e
    have p0 : Pres M (begun M v ow) y := pres_begun y
    have p1 : Pres (blank (begun M v ow) []) (blank Mw Hw) y := by
      rcases List.mem_append.1 hy with hk | hk
      · exact hw.kids y hk hy0
      · obtain rfl : y = v.tail := by simpa using hk
        exact hw.keeps _ hy0 (addP_self _ _)
    have p2 : Pres (blank Mw Hw) (blank M1 []) y := hr.kids y hy hy0
    have p3 : Pres M1 M' y := hpr.kid hr.cell hy hy0
    have p12 := p1.trans p2
    rw [blank_nil, blank_nil] at p12
    exact hl.pres ((p0.trans p12).trans p3)
  refine ⟨⟨by rw [hll]; show v.n + 1 = _; rw [hv.n], by omega, fun e => by simp at e, fun _ => ?_, fun e => by omega, fun _ => ?_⟩, hr2.bk.lent, fun a h0 hp => ((pres_begun _).trans (hkp a h0 hp)).trans (hkp2 a h0 (Nat.le_trans hp (addP_le _ _ _))), ?_⟩
  · rw [hll, Nat.add_sub_cancel, chunk_next l x hnf.2]
    exact ⟨_, 1, hr2.cell, rfl, rfl⟩
  · refine ⟨_, q', hcell, hcr.1, ?_, fun k y hy => ?_⟩
    · show ((contC M v.root).kids ++ [v.tail]).length = _
      rw [List.length_append, hcr.2.1, List.length_singleton, hll]; omega
    · have hy' : ((contC M v.root).kids ++ [v.tail])[k]? = some y := hy
      have hk := (List.getElem?_eq_some_iff.1 hy').1
      rw [List.length_append, hcr.2.1, List.length_singleton] at hk
      rw [chunk_old l x k (by omega)]
      refine hleaf y (List.mem_of_getElem? hy') _ ?_
      by_cases hlt' : k < (contC M v.root).kids.length
      · rw [List.getElem?_append_left hlt'] at hy'
        exact hcr.2.2 k y hy'
      · rw [List.getElem?_append_right (by omega)] at hy'
        have e : k = (l.length - 1) / 32 := by rw [hcr.2.1] at hlt'; omega
        rw [hcr.2.1, e, Nat.sub_self] at hy'
        obtain rfl : v.tail = y := by simpa using hy'
        rw [e]
        exact htl
  · have h1 := hr.live
    have h3 := hr2.live
    have h4 : live (most + 1) (begun M v ow) = live (most + 1) M := begun_live
    split at h1 <;> split at h3 <;> omega

/-- Pop within the tail. -/
theorem pop_tail_res (hb : Bk (most + 1) M [] P [v.root, v.tail]) (hv : VecIs M v l) (hl : l ≠ []) (hs : l.length % 32 ≠ 1)
    (h : Renewed (begun M v ow) v.tail ow { contC M v.tail with vals := (contC M v.tail).vals.take ((v.n - 1) % 32) } most n M') : VRes most M P v ow 1 ⟨v.n - 1, v.root, n⟩ l.dropLast M' := by
  have hz := hb.zero
  have hb1 := (hb.begun ow).lend
  have hl0 : 0 < l.length := List.length_pos_iff.2 hl
  have hle := hv.le
  have hll : l.dropLast.length = l.length - 1 := List.length_dropLast
  have hch : ∀ k, k ≤ (l.length - 2) / 32 → chunk l.dropLast k = (chunk l k).take (l.length - 1 - 32 * k) := fun k hk => by
    unfold chunk
    rw [List.dropLast_eq_take, List.drop_take, List.take_take, List.take_take, Nat.min_comm]
  have hcl : (contC M v.tail).vals.length ≤ 32 ∧ (contC M v.tail).kids = [] ∧ (contC M v.tail).vals.take ((v.n - 1) % 32) = chunk l.dropLast ((l.length - 2) / 32) := by
    obtain ⟨c, r, e, e1, e2⟩ := hv.tl hl
    have ec : contC M v.tail = c := by unfold contC; rw [e]
    rw [ec]
    refine ⟨by rw [e1, chunk_length]; omega, e2, ?_⟩
    rw [hch _ (Nat.le_refl _), e1, hv.n, show (l.length - 1) / 32 = (l.length - 2) / 32 by omega, show l.length - 1 - 32 * ((l.length - 2) / 32) = (l.length - 1) % 32 by omega]
  obtain ⟨M1, H1, hw, hr⟩ := h.ren hb1 (fun _ => Nat.le_refl _) begun_cont (fun M1 H1 hw => hw.bk) (by show ((contC M v.tail).vals.take _).length ≤ _; rw [List.length_take]; omega) (by show (contC M v.tail).kids.length ≤ _; rw [hcl.2.1]; exact Nat.zero_le _)
  have hkp := blank_keeps hr.keeps
  have hroot : v.root ≠ 0 → Pres M M' v.root := fun h0 => (pres_begun _).trans (hkp _ h0 (addP_self _ _))
  refine ⟨⟨by rw [hll]; show v.n - 1 = _; rw [hv.n], by omega, fun e => ?_, fun _ => ?_, fun e => hv.r0 (by omega), fun e => ?_⟩, hr.bk.lent, fun r h0 hp => (pres_begun _).trans (hkp r h0 (Nat.le_trans hp (addP_le _ _ _))), ?_⟩
  · have : l.length = 1 := by rw [e] at hll; simp at hll; omega
    omega
  · rw [hll, show l.length - 1 - 1 = l.length - 2 by omega]
    exact ⟨_, 1, hr.cell, hcl.2.2, hcl.2.1⟩
  · obtain ⟨c, r, e1, e2, e3, e4⟩ := hv.rt (by omega)
    have n0 : v.root ≠ 0 := fun e0 => by rw [e0, hz] at e1; cases e1
    obtain ⟨r', e'⟩ := hroot n0 _ c r .refl e1
    refine ⟨c, r', e', e2, by rw [e3, hll]; omega, fun k y hy => ?_⟩
    have hlf := e4 k y hy
    have hk : k < c.kids.length := (List.getElem?_eq_some_iff.1 hy).1
    have hce : chunk l.dropLast k = chunk l k := by
      rw [hch k (by omega), List.take_of_length_le (by rw [chunk_length]; omega)]
    rw [hce]
    have hlf' := hlf
    obtain ⟨c2, r2, e5, _⟩ := hlf'
    exact hlf.pres ((hroot n0).kid e1 (List.mem_of_getElem? hy) (fun e0 => by rw [e0, hz] at e5; cases e5))
  · have h1 := hr.live
    have h2 : live (most + 1) (begun M v ow) = live (most + 1) M := begun_live
    split at h1 <;> omega

/-- Pop where the trunk has one leaf, or none. -/
theorem pop_few_res {t kn : Nat} (hb : Bk (most + 1) M [] P [v.root, v.tail]) (hv : VecIs M v l) (hvn : v.n = kn + 1) (hl : l ≠ []) (hs : l.length % 32 = 1) (h33 : l.length ≤ 33) (hk : ((contC M v.root).kids = [] ∧ t = 0) ∨ (contC M v.root).kids = [t])
    (h : if ow = 0 then M' = keepC (keepC M 0) t else ∃ Ma, Drops (keepC (keepC M 0) t) [v.root] Ma ∧ Drops Ma [v.tail] M') : VRes most M P v ow 0 ⟨kn, 0, t⟩ l.dropLast M' := by
  have hz := hb.zero
  have hl0 : 0 < l.length := List.length_pos_iff.2 hl
  have hll : l.dropLast.length = l.length - 1 := List.length_dropLast
  have e0 : keepC M 0 = M := by unfold keepC; rw [hz]
  rw [e0] at h
  have hlen : (contC M v.root).kids.length = (l.length - 1) / 32 := by
    by_cases h32 : 32 < l.length
    · obtain ⟨c, q, e1, e2, e3, e4⟩ := hv.rt h32
      have ec : contC M v.root = c := by unfold contC; rw [e1]
      rw [ec]; exact e3
    · have e : contC M v.root = ⟨0, 0, 0, [], []⟩ := by unfold contC; rw [hv.r0 (by omega), hz]
      rw [e]; show 0 = _; omega
  have htl : t ≠ 0 → M t ≠ none ∧ ∃ c q, M v.root = some (c, q) ∧ c.kids = [t] := fun h0 => by
    have hk' : (contC M v.root).kids = [t] := hk.resolve_left (fun e => h0 e.2)
    obtain ⟨c, q, e1, _⟩ := hv.rt (by rw [hk'] at hlen; simp at hlen; omega)
    have ec : contC M v.root = c := by unfold contC; rw [e1]
    rw [ec] at hk'
    exact ⟨(hb.kid (by simp) e1 (by rw [hk']; simp) h0).1, c, q, e1, hk'⟩
  have hbt : Bk (most + 1) (keepC M t) [] P [t, v.root, v.tail] := hb.keep (fun h0 => ⟨(htl h0).1, by simp⟩)
  have hall : ∀ r, Pres M (keepC M t) r := fun r => Pres.all (all_keepC (i := t))
  have count3 : ∀ k, [t, v.root, v.tail].count k = (if k = t then 1 else 0) + ((if k = v.root then 1 else 0) + if k = v.tail then 1 else 0) := fun k => by
    rw [count_c, count2]; omega
  have hlk : live (most + 1) (keepC M t) = live (most + 1) M := keepC_live
  -- the books, and what is left of all
  have hfin : Bk (most + 1) M' [] (outP P v ow) [0, t] ∧ Keeps (outP P v ow) M M' ∧ (t ≠ 0 → Pres M M' t) ∧ live (most + 1) M' ≤ live (most + 1) M := by
    by_cases h0 : ow = 0
    · rw [if_pos h0] at h
      subst h
      refine ⟨hbt.move (fun k hk => ?_) (fun x hx => by simp at hx), fun r _ _ => hall r, fun _ => hall t, by rw [hlk]; exact Nat.le_refl _⟩
      rw [count3, count2, if_neg (show ¬ k = 0 by omega)]
      unfold outP addP
      rw [if_pos h0]
      omega
    · rw [if_neg h0] at h
      obtain ⟨Ma, hd1, hd2⟩ := h
      have hb1 : Bk (most + 1) (keepC M t) [] P (v.root :: [v.tail, t]) := hbt.perm fun k _ => by
        rw [count3, count_c v.root, count2]; omega
      obtain ⟨b1, b2, _⟩ := hb1.drop hd1
      obtain ⟨c1, c2, _⟩ := b1.drop hd2
      rw [blank_nil, blank_nil] at b2 c2
      have ho : outP P v ow = P := by unfold outP; rw [if_neg h0]
      have o1 := b1.ok
      have o2 := c1.ok
      rw [blank_nil] at o1 o2
      have hlive : ∀ {A B : Cells}, Sub B A → live (most + 1) B ≤ live (most + 1) A := fun hs => live_mono fun j hj => by
        intro e
        exact hj (hs.none e)
      refine ⟨?_, ?_, ?_, ?_⟩
      · rw [ho]
        exact c1.perm fun k hk => by rw [count1, count2, if_neg (show ¬ k = 0 by omega)]; omega
      · rw [ho]
        intro r h0' hr
        exact ((hall r).trans (Pres.sub b2 o1 (b1.held hr h0'))).trans (Pres.sub c2 o2 (c1.held hr h0'))
      · intro ht
        exact ((hall t).trans (Pres.sub b2 o1 (b1.hand (i := t) (by simp) ht).1)).trans (Pres.sub c2 o2 (c1.hand (i := t) (by simp) ht).1)
      · have h1 := hlive b2
        have h2 := hlive c2
        omega
  obtain ⟨f1, f2, f3, f4⟩ := hfin
  refine ⟨⟨by rw [hll]; show kn = _; have := hv.n; omega, by have := hv.le; omega, fun e => ?_, fun e => ?_, fun _ => rfl, fun e => by omega⟩, f1, f2, by omega⟩
  · refine ⟨rfl, ?_⟩
    have h1 : l.length = 1 := by rw [e] at hll; simp at hll; omega
    rcases hk with ⟨_, h2⟩ | h2
    · exact h2
    · rw [h2, h1] at hlen; simp at hlen
  · have h1 : l.length = 33 := by
      have : 0 < l.dropLast.length := List.length_pos_iff.2 e
      omega
    have hk' : (contC M v.root).kids = [t] := by
      rcases hk with ⟨h2, _⟩ | h2
      · rw [h2, h1] at hlen; simp at hlen
      · exact h2
    obtain ⟨c, q, e1, e2, e3, e4⟩ := hv.rt (by omega)
    have ec : contC M v.root = c := by unfold contC; rw [e1]
    rw [ec] at hk'
    have hlf := e4 0 t (by rw [hk']; rfl)
    have hlf' := hlf
    obtain ⟨c2, q2, e5, _⟩ := hlf'
    have ht0 : t ≠ 0 := fun e0' => by rw [e0', hz] at e5; cases e5
    have hce : chunk l.dropLast ((l.dropLast.length - 1) / 32) = chunk l 0 := by
      rw [hll, h1]
      unfold chunk
      simp only [Nat.reduceSub, Nat.reduceDiv, Nat.mul_zero, List.drop_zero]
      rw [List.dropLast_eq_take, List.take_take, h1]
      rfl
    rw [hce]
    exact hlf.pres (f3 ht0)

/-- Pop where the trunk keeps some leaves. -/
theorem pop_many_res {r t kn lf : Nat} {M1 : Cells} (hb : Bk (most + 1) M [] P [v.root, v.tail]) (hv : VecIs M v l) (hvn : v.n = kn + 1) (hs : l.length % 32 = 1) (h33 : 33 < l.length) (hlf : (contC M v.root).kids.length = lf + 1) (ht : (contC M v.root).kids[lf]? = some t)
    (h : Renewed (begun M v ow) v.root ow { contC M v.root with kids := (contC M v.root).kids.take lf } most r M1) (hd : Drops M1 [v.tail] M') : VRes most M P v ow 1 ⟨kn, r, t⟩ l.dropLast M' := by
  have hz := hb.zero
  have hbg := hb.begun ow
  have hle := hv.le
  have hll : l.dropLast.length = l.length - 1 := List.length_dropLast
  obtain ⟨cr, rr, r1, r2, r3, r4⟩ := hv.rt (by omega)
  have hcr : contC M v.root = cr := by unfold contC; rw [r1]
  rw [hcr] at hlf ht h
  have hlfv : lf + 1 = (l.length - 1) / 32 := by omega
  have htm : t ∈ cr.kids := List.mem_of_getElem? ht
  have hleaf : ∀ y ∈ cr.kids, ∃ c q, M y = some (c, q) := fun y hy => by
    obtain ⟨k, hk⟩ := List.getElem?_of_mem hy
    obtain ⟨c, q, e, _⟩ := r4 k y hk
    exact ⟨c, q, e⟩
  have hn0 : ∀ y ∈ cr.kids, y ≠ 0 := fun y hy e0 => by
    obtain ⟨c, q, e⟩ := hleaf y hy
    rw [e0, hz] at e
    cases e
  obtain ⟨P0, hP0⟩ : ∃ P0, P0 = addP (outP P v ow) v.tail := ⟨_, rfl⟩
  have hb1 : Bk (most + 1) (begun M v ow) [] P0 [v.root] := by rw [hP0]; exact hbg.swap.lend
  have hsplit : ∀ k, cr.kids.count k = (cr.kids.take lf).count k + [t].count k := fun k => by
    have e : cr.kids = cr.kids.take lf ++ [t] := by
      have h1 := List.take_append_drop lf cr.kids
      have h2 : cr.kids.drop lf = [t] := by
        have h3 : lf < cr.kids.length := by omega
        rw [List.drop_eq_getElem_cons h3]
        have h4 : cr.kids[lf] = t := by have := List.getElem?_eq_getElem h3; rw [ht] at this; exact (Option.some.inj this).symm
        rw [h4, List.drop_eq_nil_of_le (by omega)]
      rw [h2] at h1
      exact h1.symm
    conv => lhs; rw [e]
    rw [List.count_append]
  obtain ⟨Mw, Hw, hw, hr⟩ := h.renK (P := addP P0 t) hb1 (fun A B hw a ha hp => by
      by_cases e : 1 ≤ P0 a
      · exact hw.keeps a ha e
      · have : a = t := by
          unfold addP at hp
          by_cases e1 : a = t
          · exact e1
          · rw [if_neg e1] at hp; omega
        subst this
        exact hw.kids a htm ha) (fun hal => by
      obtain ⟨c, hM, _⟩ := alone_cell hal
      obtain ⟨h1, h2⟩ := alone_held hb1 hM
      have hc : c = cr := by
        have e1 : contC (begun M v ow) v.root = c := by unfold contC; rw [hM]
        rw [begun_cont, hcr] at e1
        exact e1.symm
      have hrl := hb1.lt (j := v.root) (by rw [hM]; simp)
      have hne : v.root ≠ t := fun e => by
        have h3 : v.root ∈ kd (blank (begun M v ow) [] v.root) := by rw [blank_nil, hM, hc, e]; exact htm
        have h4 := count_le_occ (M := blank (begun M v ow) []) hrl.2 v.root
        have h5 := List.count_pos_iff.2 h3
        omega
      unfold addP
      rw [h1, if_neg hne]) (begun_cont.trans hcr) (fun A B hw => hw.bk.move (fun k _ => by
        show addP P0 v.root k + cr.kids.count k = addP (addP P0 t) v.root k + (cr.kids.take lf).count k
        rw [hsplit, count1]
        unfold addP
        omega) (fun y hy => by rw [way_hole hw y hy]; exact addP_self _ _)) (by show cr.vals.length ≤ _; rw [r2]; exact Nat.zero_le _) (by show (cr.kids.take lf).length ≤ _; rw [List.length_take]; omega)
  have hkp := blank_keeps hr.keeps
  -- the tail is let go
  have hb2 : Bk (most + 1) M1 [] (outP P v ow) (v.tail :: [r, t]) := hr.bk.move (fun k _ => by
    rw [count_c v.tail, count2, count1, hP0]
    unfold addP
    omega) (fun x hx => by simp at hx)
  obtain ⟨d1, d2, _⟩ := hb2.drop hd
  rw [blank_nil, blank_nil] at d2
  have o1 := d1.ok
  rw [blank_nil] at o1
  have hsub : ∀ a, M' a ≠ none → Pres M1 M' a := fun a ha => Pres.sub d2 o1 ha
  have hpr : Pres M1 M' r := hsub r (d1.hand (i := r) (by simp) (by have := hr.pos; omega)).1
  obtain ⟨q', hcell⟩ := hpr r _ 1 .refl hr.cell
  have hpt : Pres M M' t := by
    have h1 := (pres_begun (v := v) (ow := ow) t).trans (hkp t (hn0 t htm) (addP_self _ _))
    exact h1.trans (hsub t (d1.hand (i := t) (by simp) (hn0 t htm)).1)
  have hch : ∀ k, k < lf + 1 → chunk l.dropLast k = chunk l k := fun k hk => by
    unfold chunk
    rw [List.dropLast_eq_take, List.drop_take, List.take_take, Nat.min_eq_left (by omega)]
  refine ⟨⟨by rw [hll]; show kn = _; have := hv.n; omega, by omega, fun e => by rw [e] at hll; simp at hll; omega, fun _ => ?_, fun e => by omega, fun _ => ?_⟩, d1, fun a h0 hp => ?_, ?_⟩
  · rw [hll, show (l.length - 1 - 1) / 32 = lf by omega, hch lf (by omega)]
    exact (r4 lf t ht).pres hpt
  · refine ⟨_, q', hcell, r2, ?_, fun k y hy => ?_⟩
    · show (cr.kids.take lf).length = _
      rw [List.length_take, hll]; omega
    · have hy' : (cr.kids.take lf)[k]? = some y := hy
      have hk := (List.getElem?_eq_some_iff.1 hy').1
      rw [List.length_take] at hk
      rw [hch k (by omega)]
      have hym : y ∈ cr.kids.take lf := List.mem_of_getElem? hy'
      rw [List.getElem?_take_of_lt (by omega)] at hy'
      have hyk : y ∈ cr.kids := List.mem_of_getElem? hy'
      have p1 := hw.kids y hyk (hn0 y hyk)
      have p2 := hr.kids y hym (hn0 y hyk)
      have p12 := p1.trans p2
      rw [blank_nil, blank_nil] at p12
      have p3 := hpr.kid hr.cell (show y ∈ cr.kids.take lf from hym) (hn0 y hyk)
      exact (r4 k y hy').pres (((pres_begun y).trans p12).trans p3)
  · have h1 := (pres_begun (v := v) (ow := ow) a).trans (hkp a h0 (by rw [hP0]; exact Nat.le_trans hp (Nat.le_trans (addP_le _ _ _) (addP_le _ _ _))))
    exact h1.trans (hsub a (d1.held hp h0))
  · have h1 := hr.live
    have h2 : live (most + 1) (begun M v ow) = live (most + 1) M := begun_live
    have h3 : live (most + 1) M' ≤ live (most + 1) M1 := live_mono fun j hj e => hj (d2.none e)
    split at h1 <;> omega
end

end Go.Proofs.Ytgkhbnkbhcginaa

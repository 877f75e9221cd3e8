/- The books while a change is under way: cells whose others are in the hands of the change (holes); what can be reached from a cell, and that it stays. Plainly. -/
import Derived.Test.YtgkhbnkbhcginaaRenew06
namespace Go.Proofs.Ytgkhbnkbhcginaa

/-- Without the others of the cells in H. -/
def blank (M : Cells) (H : List Nat) : Cells := fun j => if j ∈ H then (M j).map (fun x => ({ x.1 with kids := [] }, x.2)) else M j
section
variable {M M' : Cells} {H : List Nat} {i j N : Nat} {c : Hc} {r : Nat}
theorem blank_nil (M : Cells) : blank M [] = M := by funext j; simp [blank]
theorem blank_in (h : j ∈ H) (e : M j = some (c, r)) : blank M H j = some ({ c with kids := [] }, r) := by simp [blank, h, e]
theorem blank_out (h : j ∉ H) : blank M H j = M j := by simp [blank, h]
theorem blank_none : blank M H j = none ↔ M j = none := by
  unfold blank
  split
  · rw [Option.map_eq_none_iff]
  · exact Iff.rfl
theorem blank_rf : rf (blank M H j) = rf (M j) := by
  unfold blank
  split
  · cases M j <;> rfl
  · rfl
theorem blank_one : one (blank M H j) = one (M j) := by
  unfold blank
  split
  · cases M j <;> rfl
  · rfl
theorem blank_live : live N (blank M H) = live N M := sumTo_congr N fun _ _ => blank_one
theorem blank_upd (h : i ∉ H) (z : Option (Hc × Nat)) : blank (upd M i z) H = upd (blank M H) i z := by
  funext j
  by_cases e : j = i
  · subst e; rw [upd_same, blank_out h, upd_same]
  · rw [upd_other _ _ e]
    unfold blank
    rw [upd_other _ _ e]
theorem blank_cons (hi : M i = some (c, r)) : blank M (i :: H) = upd (blank M H) i (some ({ c with kids := [] }, r)) := by
  funext j
  by_cases e : j = i
  · subst e; rw [upd_same, blank_in (by simp) hi]
  · rw [upd_other _ _ e]
    unfold blank
    simp [e]
theorem blank_fill (h : i ∉ H) (z : Option (Hc × Nat)) : blank (upd M i z) H = upd (blank M (i :: H)) i z := by
  rw [blank_upd h]
  funext j
  by_cases e : j = i
  · subst e; rw [upd_same, upd_same]
  · rw [upd_other _ _ e, upd_other _ _ e]
    unfold blank
    simp [e]
end

/-- Holds and one more. -/
def addP (P : Nat → Nat) (i : Nat) : Nat → Nat := fun k => P k + if k = i then 1 else 0
theorem addP_le (P : Nat → Nat) (i k : Nat) : P k ≤ addP P i k := Nat.le_add_right _ _
theorem addP_self (P : Nat → Nat) (i : Nat) : 1 ≤ addP P i i := by simp [addP]

/-- The books: P is what others hold (and the change holds each of its holes), hs what is in hand. -/
structure Bk (N : Nat) (M : Cells) (H : List Nat) (P : Nat → Nat) (hs : List Nat) : Prop where
  ok : Ok N (blank M H) (fun k => P k + hs.count k) []
  hole : ∀ h ∈ H, 1 ≤ P h ∧ rf (M h) = 1
  small : ∀ j, (kd (M j)).length ≤ 64
theorem Ok.congr {N : Nat} {M : Cells} {own own' : Nat → Nat} {t : List Nat} (h : Ok N M own t) (e : ∀ k, 1 ≤ k → own k = own' k) : Ok N M own' t :=
  ⟨h.zero, h.top, h.pos, fun i hi => by rw [← e i hi]; exact h.bal i hi, h.rank⟩
section
variable {N : Nat} {M M' : Cells} {H hs hs' : List Nat} {P P' : Nat → Nat} {i j : Nat} {c c0 : Hc} {r : Nat}
theorem Bk.perm (h : Bk N M H P hs) (e : ∀ k, 1 ≤ k → hs.count k = hs'.count k) : Bk N M H P hs' :=
  ⟨h.ok.congr fun k hk => by rw [e k hk], h.hole, h.small⟩
theorem Bk.move (h : Bk N M H P hs) (e : ∀ k, 1 ≤ k → P k + hs.count k = P' k + hs'.count k) (hH : ∀ x ∈ H, 1 ≤ P' x) : Bk N M H P' hs' :=
  ⟨h.ok.congr e, fun x hx => ⟨hH x hx, (h.hole x hx).2⟩, h.small⟩
theorem Bk.zero (h : Bk N M H P hs) : M 0 = none := blank_none.1 h.ok.zero
theorem Bk.bal (h : Bk N M H P hs) (hi : 1 ≤ i) : rf (M i) = P i + hs.count i + occ N (blank M H) i := by
  have := h.ok.bal i hi
  rw [blank_rf] at this
  simpa using this
theorem Bk.lt (h : Bk N M H P hs) (hj : M j ≠ none) : 1 ≤ j ∧ j < N := h.ok.lt (fun e => hj (blank_none.1 e))
/-- What is in hand is there, and no hole. -/
theorem Bk.hand (h : Bk N M H P hs) (hi : i ∈ hs) (h0 : i ≠ 0) : M i ≠ none ∧ i ∉ H := by
  have hb := h.bal (i := i) (by omega)
  have hc := List.count_pos_iff.2 hi
  refine ⟨held_of_rf (by omega), fun hH => ?_⟩
  have := h.hole i hH
  omega
theorem Bk.held (h : Bk N M H P hs) (hp : 1 ≤ P i) (h0 : i ≠ 0) : M i ≠ none := by
  have hb := h.bal (i := i) (by omega)
  exact held_of_rf (by omega)
/-- The others of a cell are there, and no holes. -/
theorem Bk.kid (h : Bk N M H P hs) (hi : i ∉ H) (hM : M i = some (c, r)) {k : Nat} (hk : k ∈ c.kids) (h0 : k ≠ 0) : M k ≠ none ∧ k ∉ H := by
  have hk' : k ∈ kd (blank M H i) := by rw [blank_out hi, hM]; exact hk
  have hj := h.lt (j := i) (by rw [hM]; simp)
  refine ⟨fun e => h.ok.kid hk' h0 (blank_none.2 e), fun hH => ?_⟩
  have h1 := count_le_occ (M := blank M H) hj.2 k
  have h2 := List.count_pos_iff.2 hk'
  have h3 := h.bal (i := k) (by omega)
  have h4 := h.hole k hH
  omega
theorem Bk.rfb (h : Bk N M H P hs) (j : Nat) : rf (M j) ≤ P j + hs.count j + N * 64 := by
  rcases Nat.eq_zero_or_pos j with e | e
  · subst e; rw [h.zero]; exact Nat.zero_le _
  · have h1 := h.bal (i := j) e
    have h2 : occ N (blank M H) j ≤ N * 64 := sumTo_le 64 N fun x _ => by
      refine Nat.le_trans List.count_le_length ?_
      unfold blank
      split
      · cases e : M x with
        | none => simp [kd]
        | some y => simp [kd]
      · exact h.small x
    omega

theorem keepC_blank (hi : i ∉ H) : blank (keepC M i) H = keepC (blank M H) i := by
  unfold keepC
  rw [blank_out hi]
  cases e : M i with
  | none => rfl
  | some x => exact blank_upd hi _
theorem kd_keepC : kd (keepC M i j) = kd (M j) := by
  unfold keepC
  cases e : M i with
  | none => rfl
  | some x =>
    by_cases e' : j = i
    · subst e'; show kd (upd M j _ j) = _; rw [upd_same, e]; rfl
    · show kd (upd M i _ j) = _
      rw [upd_other _ _ e']
theorem Bk.keep (h : Bk N M H P hs) (hi : i ≠ 0 → M i ≠ none ∧ i ∉ H) : Bk N (keepC M i) H P (i :: hs) := by
  by_cases h0 : i = 0
  · subst h0
    have e : keepC M 0 = M := by unfold keepC; rw [h.zero]
    rw [e]
    exact h.perm fun k hk => by rw [List.count_cons_of_ne (by simpa using (by omega : 0 ≠ k))]
  · obtain ⟨h1, h2⟩ := hi h0
    cases e : M i with
    | none => exact absurd e h1
    | some x =>
      have hM : blank M H i = some (x.1, x.2) := by rw [blank_out h2, e]
      refine ⟨?_, fun y hy => ⟨(h.hole y hy).1, ?_⟩, fun y => by rw [kd_keepC]; exact h.small y⟩
      · rw [keepC_blank h2]
        unfold keepC
        rw [hM]
        refine (h.ok.keep hM).congr fun k _ => ?_
        rw [List.count_cons]
        by_cases ek : k = i
        · subst ek; simp; omega
        · rw [if_neg ek, if_neg (by simpa using Ne.symm ek)]; omega
      · have hyi : y ≠ i := fun e => h2 (e ▸ hy)
        unfold keepC
        rw [e]
        show rf (upd M i _ y) = 1
        rw [upd_other _ _ hyi]
        exact (h.hole y hy).2
theorem Bk.keepAll : ∀ {l : List Nat} {M : Cells} {hs : List Nat}, Bk N M H P hs → (∀ k ∈ l, k ≠ 0 → M k ≠ none ∧ k ∉ H) → Bk N (keepAll M l) H P (l ++ hs)
  | [], _, _, h, _ => h
  | i :: l, M, hs, h, hl => by
    have h1 := h.keep (i := i) (hl i (by simp))
    have h2 := Bk.keepAll (l := l) h1 (fun k hk h0 => ⟨fun e => (hl k (by simp [hk]) h0).1 (keepC_none.1 e), (hl k (by simp [hk]) h0).2⟩)
    refine h2.perm fun k _ => ?_
    simp only [List.count_append, List.count_cons]
    omega
theorem Bk.make (h : Bk N M H P (c.kids ++ hs)) {n : Nat} (h1 : 1 ≤ n) (hN : n < N) (hn : M n = none) (hc : c.kids.length ≤ 64) : Bk N (upd M n (some (c, 1))) H P (n :: hs) := by
  have hnH : n ∉ H := fun hH => by have := h.hole n hH; rw [hn] at this; simp [rf] at this
  have hb := h.ok.free h1 (blank_none.2 hn)
  refine ⟨?_, fun y hy => ⟨(h.hole y hy).1, ?_⟩, fun y => ?_⟩
  · rw [blank_upd hnH]
    refine (h.ok.make h1 hN (blank_none.2 hn) c (fun k _ => by rw [List.count_append]; omega)).congr fun k _ => ?_
    rw [List.count_append, List.count_cons]
    by_cases ek : k = n
    · subst ek; simp; omega
    · rw [if_neg ek, if_neg (by simpa using Ne.symm ek)]; omega
  · have hyn : y ≠ n := fun e => hnH (e ▸ hy)
    rw [upd_other _ _ hyn]; exact (h.hole y hy).2
  · by_cases e : y = n
    · subst e; rw [upd_same]; exact hc
    · rw [upd_other _ _ e]; exact h.small y
theorem Bk.open (h : Bk N M H P (i :: hs)) (hM : M i = some (c0, 1)) : Bk N M (i :: H) (addP P i) (c0.kids ++ hs) := by
  have hi := h.lt (j := i) (by rw [hM]; simp)
  have hiH := (h.hand (i := i) (by simp) (by omega)).2
  have hb : blank M H i = some (c0, 1) := by rw [blank_out hiH, hM]
  refine ⟨?_, fun y hy => ?_, h.small⟩
  · rw [blank_cons hM]
    refine (h.ok.edit (c := { c0 with kids := [] }) hb (by simp; omega) (fun _ _ => Nat.zero_le _) (by simp)).congr fun k _ => ?_
    show P k + (i :: hs).count k - 0 + c0.kids.count k = addP P i k + (c0.kids ++ hs).count k
    rw [List.count_append, List.count_cons]
    unfold addP
    by_cases ek : k = i
    · subst ek; simp; omega
    · rw [if_neg ek, if_neg (by simpa using Ne.symm ek)]; omega
  · rcases List.mem_cons.1 hy with rfl | hy
    · exact ⟨addP_self _ _, by rw [hM]; rfl⟩
    · exact ⟨Nat.le_trans (h.hole y hy).1 (addP_le _ _ _), (h.hole y hy).2⟩
theorem Bk.fill (h : Bk N M (i :: H) (addP P i) (c.kids ++ hs)) (hiH : i ∉ H) (hH : ∀ x ∈ H, 1 ≤ P x) (hM : M i = some (c0, 1)) (hc : c.kids.length ≤ 64) : Bk N (upd M i (some (c, 1))) H P (i :: hs) ∧ i ∉ c.kids := by
  have hi := h.lt (j := i) (by rw [hM]; simp)
  have hb : blank M (i :: H) i = some ({ c0 with kids := [] }, 1) := blank_in (by simp) hM
  have hbal := h.bal (i := i) hi.1
  have hcnt : c.kids.count i = 0 := by
    rw [hM] at hbal
    simp only [rf] at hbal
    have h1 : 1 ≤ addP P i i := addP_self P i
    have h2 : (c.kids ++ hs).count i = c.kids.count i + hs.count i := List.count_append
    omega
  have hni : i ∉ c.kids := List.count_eq_zero.1 hcnt
  refine ⟨⟨?_, fun y hy => ⟨hH y hy, ?_⟩, fun y => ?_⟩, hni⟩
  · rw [blank_fill hiH]
    refine (h.ok.edit hb (by have := addP_self P i; show 1 ≤ addP P i i + _; omega) (fun k _ => by rw [List.count_append]; omega) hni).congr fun k _ => ?_
    show addP P i k + (c.kids ++ hs).count k - c.kids.count k + 0 = P k + (i :: hs).count k
    rw [List.count_append, List.count_cons]
    unfold addP
    by_cases ek : k = i
    · subst ek; simp; omega
    · rw [if_neg ek, if_neg (by simpa using Ne.symm ek)]; omega
  · have hyi : y ≠ i := fun e => hiH (e ▸ hy)
    rw [upd_other _ _ hyi]; exact (h.hole y (by simp [hy])).2
  · by_cases e : y = i
    · subst e; rw [upd_same]; exact hc
    · rw [upd_other _ _ e]; exact h.small y

/-- What is let go is no hole, and all goes as if the holes were none. -/
theorem drops_blank {t : List Nat} {own : Nat → Nat} (hd : Drops M t M') : Ok N (blank M H) own t → (∀ h ∈ H, 1 ≤ own h ∧ rf (M h) = 1) → Drops (blank M H) t (blank M' H) ∧ ∀ h ∈ H, M' h = M h := by
  induction hd with
  | done M => exact fun _ _ => ⟨.done _, fun _ _ => rfl⟩
  | @step M M' t x _ ih =>
    intro ho hH
    have hxH : x ∉ H := fun hx => by
      have h1 := hH x hx
      have hx1 : 1 ≤ x := by
        rcases Nat.eq_zero_or_pos x with e | e
        · subst e
          have := blank_none.1 ho.zero
          rw [this] at h1
          simp [rf] at h1
        · exact e
      have h2 := ho.bal x hx1
      rw [blank_rf, List.count_append, List.count_singleton_self] at h2
      omega
    have e1 : blank (release M x).1 H = (release (blank M H) x).1 ∧ (release M x).2 = (release (blank M H) x).2 := by
      unfold release
      rw [blank_out hxH]
      cases e : M x with
      | none => exact ⟨rfl, rfl⟩
      | some y =>
        by_cases hr : 1 < y.2
        · simp only [hr, if_true]
          exact ⟨blank_upd hxH _, trivial⟩
        · simp only [hr, if_false]
          exact ⟨blank_upd hxH _, trivial⟩
    have hrel : ∀ h ∈ H, (release M x).1 h = M h := fun h hh => by
      have hne : h ≠ x := fun e => hxH (e ▸ hh)
      unfold release
      cases e : M x with
      | none => rfl
      | some y =>
        by_cases hr : 1 < y.2
        · simp only [hr, if_true]; exact upd_other _ _ hne
        · simp only [hr, if_false]; exact upd_other _ _ hne
    obtain ⟨h1, _⟩ := ho.release (x := x) (s := t) (fun i => List.count_append)
    obtain ⟨a1, a2⟩ := ih (by rw [e1.1, e1.2]; exact h1) (fun h hh => by rw [hrel h hh]; exact hH h hh)
    refine ⟨.step ?_, fun h hh => (a2 h hh).trans (hrel h hh)⟩
    rw [← e1.1, ← e1.2]
    exact a1
theorem Bk.drop (h : Bk N M H P (i :: hs)) (hd : Drops M [i] M') : Bk N M' H P hs ∧ Sub (blank M' H) (blank M H) ∧ ∀ x ∈ H, M' x = M x := by
  have ho : Ok N (blank M H) (fun k => P k + hs.count k) [i] := by
    by_cases h0 : i = 0
    · subst h0
      refine ⟨h.ok.zero, h.ok.top, h.ok.pos, fun k hk => ?_, h.ok.rank⟩
      have := h.ok.bal k hk
      rw [List.count_singleton, if_neg (by simpa using (by omega : 0 ≠ k))]
      rw [List.count_cons_of_ne (by simpa using (by omega : 0 ≠ k))] at this
      simpa using this
    · refine (h.ok.give (i := i) (by simp; omega)).congr fun k _ => ?_
      show P k + (i :: hs).count k - _ = _
      rw [List.count_cons]
      by_cases ek : k = i
      · subst ek; simp
      · rw [if_neg ek, if_neg (by simpa using Ne.symm ek)]; omega
  obtain ⟨h1, h2⟩ := drops_blank hd ho (fun x hx => ⟨Nat.le_trans (h.hole x hx).1 (Nat.le_add_right _ _), (h.hole x hx).2⟩)
  obtain ⟨h3, h4⟩ := h1.ok ho
  refine ⟨⟨h3, fun x hx => ⟨(h.hole x hx).1, by rw [h2 x hx]; exact (h.hole x hx).2⟩, fun y => ?_⟩, h4, h2⟩
  by_cases hy : y ∈ H
  · rw [h2 y hy]; exact h.small y
  · cases e : M' y with
    | none => simp [kd]
    | some z =>
      obtain ⟨r0, e0, _⟩ := h4 y z.1 z.2 (by rw [blank_out hy, e])
      rw [blank_out hy] at e0
      have := h.small y
      rw [e0] at this
      exact this
end

/-- What can be reached from a cell. -/
inductive Reach (M : Cells) (r : Nat) : Nat → Prop
  | refl : Reach M r r
  | kid {x k : Nat} (h : Reach M r x) (hk : k ∈ kd (M x)) (h0 : k ≠ 0) : Reach M r k
/-- All that can be reached from r is as it was. -/
def Pres (M M' : Cells) (r : Nat) : Prop := ∀ x c q, Reach M r x → M x = some (c, q) → ∃ q', M' x = some (c, q')
/-- .. from whatever others hold. -/
def Keeps (P : Nat → Nat) (M M' : Cells) : Prop := ∀ r, r ≠ 0 → 1 ≤ P r → Pres M M' r
section
variable {N : Nat} {M M' M'' : Cells} {own P : Nat → Nat} {t H hs : List Nat} {r i x : Nat}
theorem Pres.refl (M : Cells) (r : Nat) : Pres M M r := fun _ _ q _ h => ⟨q, h⟩
theorem Pres.reach (h : Pres M M' r) (hx : Reach M r x) : Reach M' r x := by
  induction hx with
  | refl => exact .refl
  | @kid x k hx hk h0 ih =>
    cases e : M x with
    | none => rw [e] at hk; simp [kd] at hk
    | some y =>
      obtain ⟨q', e'⟩ := h x y.1 y.2 hx e
      refine .kid ih ?_ h0
      rw [e']
      rw [e] at hk
      exact hk
theorem Pres.trans (h : Pres M M' r) (k : Pres M' M'' r) : Pres M M'' r := fun x c q hx e => by
  obtain ⟨q', e'⟩ := h x c q hx e
  exact k x c q' (h.reach hx) e'
theorem Keeps.refl (P : Nat → Nat) (M : Cells) : Keeps P M M := fun r _ _ => Pres.refl M r
theorem Keeps.trans (h : Keeps P M M') (k : Keeps P M' M'') : Keeps P M M'' := fun r h0 hr => (h r h0 hr).trans (k r h0 hr)
theorem Keeps.less {P' : Nat → Nat} (h : Keeps P M M') (hP : ∀ k, P' k ≤ P k) : Keeps P' M M' := fun r h0 hr => h r h0 (Nat.le_trans hr (hP r))
theorem Pres.all (h : ∀ x c q, M x = some (c, q) → ∃ q', M' x = some (c, q')) : Pres M M' r := fun x c q _ e => h x c q e
theorem Pres.kid {c : Hc} {q k : Nat} (h : Pres M M' r) (e : M r = some (c, q)) (hk : k ∈ c.kids) (h0 : k ≠ 0) : Pres M M' k := fun x c' q' hx e' => by
  refine h x c' q' ?_ e'
  have h1 : Reach M r k := .kid .refl (by rw [e]; exact hk) h0
  clear e'
  induction hx with
  | refl => exact h1
  | kid _ hk h0 ih => exact .kid ih hk h0
theorem Pres.sub (hs : Sub M' M) (h' : Ok N M' own t) (hr : M' r ≠ none) : Pres M M' r := by
  have key : ∀ x, Reach M r x → M x ≠ none → M' x ≠ none := fun x hx => by
    induction hx with
    | refl => exact fun _ => hr
    | @kid x k hx hk h0 ih =>
      intro _
      have hx' : M x ≠ none := fun e => by rw [e] at hk; simp [kd] at hk
      cases e : M' x with
      | none => exact absurd e (ih hx')
      | some y =>
        obtain ⟨r0, e0, _⟩ := hs x y.1 y.2 e
        refine h'.kid (j := x) ?_ h0
        rw [e]
        rw [e0] at hk
        exact hk
  intro x c q hx e
  cases e' : M' x with
  | none => exact absurd e' (key x hx (by rw [e]; simp))
  | some y =>
    obtain ⟨r0, e0, _⟩ := hs x y.1 y.2 e'
    rw [e] at e0
    simp only [Option.some.injEq, Prod.mk.injEq] at e0
    exact ⟨y.2, by rw [e0.1]⟩
/-- A cell that is held once, by oneself, is reached from no other. -/
theorem Ok.lone (h : Ok N M own t) (h1 : 1 ≤ i) (hr : rf (M i) = 1) (ho : 1 ≤ own i) (hne : r ≠ i) : ¬ Reach M r i := fun hx => by
  cases hx with
  | refl => exact hne rfl
  | @kid x _ hx hk h0 =>
    have hxn : M x ≠ none := fun e => by rw [e] at hk; simp [kd] at hk
    have h2 := count_le_occ (M := M) (h.lt hxn).2 i
    have h3 := List.count_pos_iff.2 hk
    have h4 := h.bal i h1
    omega
theorem Pres.edit (hn : ¬ Reach M r i) (z : Option (Hc × Nat)) : Pres M (upd M i z) r := fun x c q hx e => ⟨q, by
  have hxi : x ≠ i := fun e' => hn (e' ▸ hx)
  rw [upd_other _ _ hxi]; exact e⟩
/-- A hole is opened. -/
theorem Bk.pres_open {c0 : Hc} (h : Bk N M H P (i :: hs)) (hM : M i = some (c0, 1)) (hr : r ≠ i) : Pres (blank M H) (blank M (i :: H)) r := by
  have hi := h.lt (j := i) (by rw [hM]; simp)
  rw [blank_cons hM]
  exact Pres.edit (h.ok.lone hi.1 (by rw [blank_rf, hM]; rfl) (by simp; omega) hr) _
/-- A hole is filled. -/
theorem Bk.pres_fill {c0 c : Hc} (h : Bk N M (i :: H) (addP P i) hs) (hiH : i ∉ H) (hM : M i = some (c0, 1)) (hr : r ≠ i) : Pres (blank M (i :: H)) (blank (upd M i (some (c, 1))) H) r := by
  have hi := h.lt (j := i) (by rw [hM]; simp)
  rw [blank_fill hiH]
  exact Pres.edit (h.ok.lone hi.1 (by rw [blank_rf, hM]; rfl) (Nat.le_trans (addP_self P i) (Nat.le_add_right _ _)) hr) _
theorem all_keepC (x : Nat) (c : Hc) (q : Nat) (e : M x = some (c, q)) : ∃ q', keepC M i x = some (c, q') := by
  unfold keepC
  cases ei : M i with
  | none => exact ⟨q, e⟩
  | some y =>
    by_cases hx : x = i
    · subst hx
      rw [e] at ei
      simp only [Option.some.injEq] at ei
      subst ei
      exact ⟨q + 1, upd_same _ _ _⟩
    · exact ⟨q, by show upd M i _ x = _; rw [upd_other _ _ hx]; exact e⟩
theorem all_keepAll : ∀ {l : List Nat} {M : Cells} (x : Nat) (c : Hc) (q : Nat), M x = some (c, q) → ∃ q', keepAll M l x = some (c, q')
  | [], _, _, _, q, e => ⟨q, e⟩
  | i :: l, M, x, c, q, e => by
    obtain ⟨q', e'⟩ := all_keepC (i := i) x c q e
    exact all_keepAll (l := l) x c q' e'
theorem all_blank {H : List Nat} (h : ∀ x c q, M x = some (c, q) → ∃ q', M' x = some (c, q')) (x : Nat) (c : Hc) (q : Nat) (e : blank M H x = some (c, q)) : ∃ q', blank M' H x = some (c, q') := by
  by_cases hx : x ∈ H
  · cases eM : M x with
    | none => rw [blank_none.2 eM] at e; cases e
    | some y =>
      rw [blank_in hx eM] at e
      simp only [Option.some.injEq, Prod.mk.injEq] at e
      obtain ⟨q', e'⟩ := h x y.1 y.2 eM
      exact ⟨q', by rw [blank_in hx e', e.1]⟩
  · rw [blank_out hx] at e ⊢
    exact h x c q e
theorem all_new {n : Nat} (hn : M n = none) (z : Option (Hc × Nat)) (x : Nat) (c : Hc) (q : Nat) (e : M x = some (c, q)) : ∃ q', upd M n z x = some (c, q') :=
  ⟨q, by rw [upd_other _ _ (fun e' => by rw [e', hn] at e; cases e)]; exact e⟩
end

end Go.Proofs.Ytgkhbnkbhcginaa

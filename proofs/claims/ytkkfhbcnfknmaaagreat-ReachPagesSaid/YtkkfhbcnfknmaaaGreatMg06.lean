/- Several texts in one. -/
import Derived.Test.YtkkfhbcnfknmaaaGreatMg05
import Derived.Deep.LoopGhost
import Derived.Test.YtkkfhbcnfknmaaaGreatMg03
namespace Go.Proofs.YtkkfhbcnfknmaaaGreat
set_option maxRecDepth 100000
open Go.RowKit

def contC (M : Cells) (i : Nat) : Hc := match M i with
  | some (c, _) => c
  | none => ⟨0, 0, 0, [], []⟩
def keepAll (M : Cells) : List Nat → Cells
  | [] => M
  | i :: l => keepAll (keepC M i) l
def Renewed (M : Cells) (i : Nat) (ow : Int) (c : Hc) (most n : Nat) (M' : Cells) : Prop :=
  if aloneB M i ow = true then n = i ∧ M' = upd M i (some ({ c with owner := ow }, 1))
  else 1 ≤ n ∧ n ≤ most ∧ M n = none ∧ Drops (upd (keepAll M (contC M i).kids) n (some ({ c with owner := ow }, 1))) [i] M'

theorem keepC_rf {M : Cells} {i j : Nat} : rf (keepC M i j) ≤ rf (M j) + 1 := by
  unfold keepC
  cases hM : M i with
  | none => simp
  | some x =>
    by_cases e : j = i
    · subst e; show rf (upd M j (some (x.1, x.2 + 1)) j) ≤ _; rw [upd_same, hM]; exact Nat.le_refl _
    · show rf (upd M i (some (x.1, x.2 + 1)) j) ≤ _
      rw [upd_other _ _ e]; omega
theorem keepC_none {M : Cells} {i j : Nat} : keepC M i j = none ↔ M j = none := by
  unfold keepC
  cases hM : M i with
  | none => exact Iff.rfl
  | some x =>
    by_cases e : j = i
    · subst e; show upd M j (some (x.1, x.2 + 1)) j = none ↔ _; rw [upd_same, hM]; simp
    · show upd M i (some (x.1, x.2 + 1)) j = none ↔ _; rw [upd_other _ _ e]
theorem keepAll_none {j : Nat} : ∀ {l : List Nat} {M : Cells}, keepAll M l j = none ↔ M j = none
  | [], _ => Iff.rfl
  | i :: l, M => by show keepAll (keepC M i) l j = none ↔ _; rw [keepAll_none, keepC_none]
theorem keepAll_rf {j : Nat} : ∀ {l : List Nat} {M : Cells}, rf (keepAll M l j) ≤ rf (M j) + l.length
  | [], _ => Nat.le_refl _
  | i :: l, M => by
    show rf (keepAll (keepC M i) l j) ≤ _
    have h1 := keepAll_rf (j := j) (l := l) (M := keepC M i)
    have h2 := keepC_rf (M := M) (i := i) (j := j)
    simp only [List.length_cons]
    omega
theorem keepC_live {N : Nat} {M : Cells} {i : Nat} : live N (keepC M i) = live N M := by
  unfold live
  refine sumTo_congr N fun j _ => ?_
  cases e : keepC M i j with
  | none => rw [keepC_none.1 e]
  | some x =>
    cases e' : M j with
    | none => rw [keepC_none.2 e'] at e; cases e
    | some y => rfl
theorem keepAll_live {N : Nat} : ∀ {l : List Nat} {M : Cells}, live N (keepAll M l) = live N M
  | [], _ => rfl
  | i :: l, M => by show live N (keepAll (keepC M i) l) = _; rw [keepAll_live, keepC_live]
theorem keepAll_snoc (M : Cells) (i : Nat) : ∀ l, keepAll M (l ++ [i]) = keepC (keepAll M l) i := by
  intro l
  induction l generalizing M with
  | nil => rfl
  | cons j l ih => exact ih (keepC M j)

theorem aeditO (i : Nat) (o o' : Int) (c c0 c1 : Hc) (v k : Value) (b most : Nat) (M : Cells) (F : Nat → Prop) (w : World) (h : Ar w b most M F) (hi : M i = some (c0, 1)) (he : o = c0.owner) (ho : ¬ o = 0) (hc : { c with owner := o } = c1) (hv : Rd w v c.vals.length (c.vals.flatMap cells3)) (hk : Rd w k c.kids.length (nums (ns c.kids)))
    (nv : c.vals.length ≤ 4194304) (nk : c.kids.length ≤ 4194304) (hg : (ns c.kids).all (goodB M) = true) :
    Calls Tryz.prog 191 #[ap b, .int .i64 i, .int .u32 o, cagg o' c.a c.b v k] w fun e w' => e = .returned (.int .i64 0) ∧ Ar w' b most (upd M i (some (c1, 1))) (Fn F w w') ∧ Kp F w w' := by
  subst he hc
  exact aedit i { c with owner := o' } c0 v k b most M F w h hi ho hv hk nv nk hg

section
variable {b most : Nat} {M : Cells} {F : Nat → Prop}
theorem vget (i : Nat) (w : World) (h : Ar w b most M F) : Calls Tryz.prog 118 #[ap b, .int .i64 i] w fun e w' => ∃ v k, e = .returned (.tuple #[cagg (contC M i).owner (contC M i).a (contC M i).b v k, .bool (M i).isSome]) ∧
    w'.ownsRow w.heap.size 36 3 v (contC M i).vals.length ((contC M i).vals.flatMap cells3) ∧ w'.ownsRow w.heap.size 3 1 k (contC M i).kids.length (nums (ns (contC M i).kids)) ∧ Below w.heap.size w w' := by
  cases hM : M i with
  | none =>
    refine (get_no (i : Int) b most M F w h (fun _ => by simpa using hM)).mono ?_
    rintro e w' ⟨rfl, hb⟩
    unfold contC
    rw [hM]
    exact ⟨_, _, rfl, World.ownsRow_nil _ _ _ _, World.ownsRow_nil _ _ _ _, hb⟩
  | some x =>
    refine (get i x.1 x.2 b most M F w h hM).mono ?_
    rintro e w' ⟨v, k, rfl, o1, o2, hb⟩
    unfold contC
    rw [hM]
    exact ⟨v, k, rfl, o1, o2, hb⟩

structure Kept (w2 wr : World) (b most : Nat) (M : Cells) (F : Nat → Prop) (B z1 : Nat) (c : Hc) (v k : Value) (j : Nat) : Prop where
  st : Stp w2 wr b most (keepAll M (c.kids.take j)) F
  c5 : C5 wr z1 94 (.int .u32 c.owner) (.int .u32 c.a) (.int .u32 c.b) v k
  o1 : wr.ownsRow B 36 3 v c.vals.length (c.vals.flatMap cells3)
  o2 : wr.ownsRow B 3 1 k c.kids.length (nums (ns c.kids))

end

end Go.Proofs.YtkkfhbcnfknmaaaGreat

namespace Go.Proofs.YtkkfhbcnfknmaaaGreat
set_option maxRecDepth 100000

def blank (M : Cells) (H : List Nat) : Cells := fun j => if j ∈ H then (M j).map (fun x => ({ x.1 with kids := [] }, x.2)) else M j
section
variable {M M' : Cells} {H : List Nat} {i j N : Nat} {c : Hc} {r : Nat}
theorem blank_nil (M : Cells) : blank M [] = M := by funext j; simp [blank]
theorem blank_in (h : j ∈ H) (e : M j = some (c, r)) : blank M H j = some ({ c with kids := [] }, r) := by simp [blank, h, e]
theorem blank_out (h : j ∉ H) : blank M H j = M j := by simp [blank, h]
theorem blank_none : blank M H j = none ↔ M j = none := by
  unfold blank
  split
  · rw [Option.map_eq_none_iff]
  · exact Iff.rfl
theorem blank_rf : rf (blank M H j) = rf (M j) := by
  unfold blank
  split
  · cases M j <;> rfl
  · rfl
theorem blank_upd (h : i ∉ H) (z : Option (Hc × Nat)) : blank (upd M i z) H = upd (blank M H) i z := by
  funext j
  by_cases e : j = i
  · subst e; rw [upd_same, blank_out h, upd_same]
  · rw [upd_other _ _ e]
    unfold blank
    rw [upd_other _ _ e]
theorem blank_cons (hi : M i = some (c, r)) : blank M (i :: H) = upd (blank M H) i (some ({ c with kids := [] }, r)) := by
  funext j
  by_cases e : j = i
  · subst e; rw [upd_same, blank_in (by simp) hi]
  · rw [upd_other _ _ e]
    unfold blank
    simp [e]
theorem blank_fill (h : i ∉ H) (z : Option (Hc × Nat)) : blank (upd M i z) H = upd (blank M (i :: H)) i z := by
  rw [blank_upd h]
  funext j
  by_cases e : j = i
  · subst e; rw [upd_same, upd_same]
  · rw [upd_other _ _ e, upd_other _ _ e]
    unfold blank
    simp [e]
end

def addP (P : Nat → Nat) (i : Nat) : Nat → Nat := fun k => P k + if k = i then 1 else 0
theorem addP_le (P : Nat → Nat) (i k : Nat) : P k ≤ addP P i k := Nat.le_add_right _ _
theorem addP_self (P : Nat → Nat) (i : Nat) : 1 ≤ addP P i i := by simp [addP]

structure Bk (N : Nat) (M : Cells) (H : List Nat) (P : Nat → Nat) (hs : List Nat) : Prop where
  ok : Ok N (blank M H) (fun k => P k + hs.count k) []
  hole : ∀ h ∈ H, 1 ≤ P h ∧ rf (M h) = 1
  small : ∀ j, (kd (M j)).length ≤ 64
theorem Ok.congr {N : Nat} {M : Cells} {own own' : Nat → Nat} {t : List Nat} (h : Ok N M own t) (e : ∀ k, 1 ≤ k → own k = own' k) : Ok N M own' t :=
  ⟨h.zero, h.top, h.pos, fun i hi => by rw [← e i hi]; exact h.bal i hi, h.rank⟩
section
variable {N : Nat} {M M' : Cells} {H hs hs' : List Nat} {P P' : Nat → Nat} {i j : Nat} {c c0 : Hc} {r : Nat}
theorem Bk.perm (h : Bk N M H P hs) (e : ∀ k, 1 ≤ k → hs.count k = hs'.count k) : Bk N M H P hs' :=
  ⟨h.ok.congr fun k hk => by rw [e k hk], h.hole, h.small⟩
theorem Bk.move (h : Bk N M H P hs) (e : ∀ k, 1 ≤ k → P k + hs.count k = P' k + hs'.count k) (hH : ∀ x ∈ H, 1 ≤ P' x) : Bk N M H P' hs' :=
  ⟨h.ok.congr e, fun x hx => ⟨hH x hx, (h.hole x hx).2⟩, h.small⟩
theorem Bk.zero (h : Bk N M H P hs) : M 0 = none := blank_none.1 h.ok.zero
theorem Bk.bal (h : Bk N M H P hs) (hi : 1 ≤ i) : rf (M i) = P i + hs.count i + occ N (blank M H) i := by
  have := h.ok.bal i hi
  rw [blank_rf] at this
  simpa using this
theorem Bk.lt (h : Bk N M H P hs) (hj : M j ≠ none) : 1 ≤ j ∧ j < N := h.ok.lt (fun e => hj (blank_none.1 e))
theorem Bk.hand (h : Bk N M H P hs) (hi : i ∈ hs) (h0 : i ≠ 0) : M i ≠ none ∧ i ∉ H := by
  have hb := h.bal (i := i) (by omega)
  have hc := List.count_pos_iff.2 hi
  refine ⟨held_of_rf (by omega), fun hH => ?_⟩
  have := h.hole i hH
  omega
theorem Bk.held (h : Bk N M H P hs) (hp : 1 ≤ P i) (h0 : i ≠ 0) : M i ≠ none := by
  have hb := h.bal (i := i) (by omega)
  exact held_of_rf (by omega)
theorem Bk.kid (h : Bk N M H P hs) (hi : i ∉ H) (hM : M i = some (c, r)) {k : Nat} (hk : k ∈ c.kids) (h0 : k ≠ 0) : M k ≠ none ∧ k ∉ H := by
  have hk' : k ∈ kd (blank M H i) := by rw [blank_out hi, hM]; exact hk
  have hj := h.lt (j := i) (by rw [hM]; simp)
  refine ⟨fun e => h.ok.kid hk' h0 (blank_none.2 e), fun hH => ?_⟩
  have h1 := count_le_occ (M := blank M H) hj.2 k
  have h2 := List.count_pos_iff.2 hk'
  have h3 := h.bal (i := k) (by omega)
  have h4 := h.hole k hH
  omega
theorem Bk.rfb (h : Bk N M H P hs) (j : Nat) : rf (M j) ≤ P j + hs.count j + N * 64 := by
  rcases Nat.eq_zero_or_pos j with e | e
  · subst e; rw [h.zero]; exact Nat.zero_le _
  · have h1 := h.bal (i := j) e
    have h2 : occ N (blank M H) j ≤ N * 64 := sumTo_le 64 N fun x _ => by
      refine Nat.le_trans List.count_le_length ?_
      unfold blank
      split
      · cases e : M x with
        | none => simp [kd]
        | some y => simp [kd]
      · exact h.small x
    omega

theorem keepC_blank (hi : i ∉ H) : blank (keepC M i) H = keepC (blank M H) i := by
  unfold keepC
  rw [blank_out hi]
  cases e : M i with
  | none => rfl
  | some x => exact blank_upd hi _
theorem kd_keepC : kd (keepC M i j) = kd (M j) := by
  unfold keepC
  cases e : M i with
  | none => rfl
  | some x =>
    by_cases e' : j = i
    · subst e'; show kd (upd M j _ j) = _; rw [upd_same, e]; rfl
    · show kd (upd M i _ j) = _
      rw [upd_other _ _ e']
theorem Bk.keep (h : Bk N M H P hs) (hi : i ≠ 0 → M i ≠ none ∧ i ∉ H) : Bk N (keepC M i) H P (i :: hs) := by
  by_cases h0 : i = 0
  · subst h0
    have e : keepC M 0 = M := by unfold keepC; rw [h.zero]
    rw [e]
    exact h.perm fun k hk => by rw [List.count_cons_of_ne (by simpa using (by omega : 0 ≠ k))]
  · obtain ⟨h1, h2⟩ := hi h0
    cases e : M i with
    | none => exact absurd e h1
    | some x =>
      have hM : blank M H i = some (x.1, x.2) := by rw [blank_out h2, e]
      refine ⟨?_, fun y hy => ⟨(h.hole y hy).1, ?_⟩, fun y => by rw [kd_keepC]; exact h.small y⟩
      · rw [keepC_blank h2]
        unfold keepC
        rw [hM]
        refine (h.ok.keep hM).congr fun k _ => ?_
        rw [List.count_cons]
        by_cases ek : k = i
        · subst ek; simp; omega
        · rw [if_neg ek, if_neg (by simpa using Ne.symm ek)]; omega
      · have hyi : y ≠ i := fun e => h2 (e ▸ hy)
        unfold keepC
        rw [e]
        show rf (upd M i _ y) = 1
        rw [upd_other _ _ hyi]
        exact (h.hole y hy).2
theorem Bk.keepAll : ∀ {l : List Nat} {M : Cells} {hs : List Nat}, Bk N M H P hs → (∀ k ∈ l, k ≠ 0 → M k ≠ none ∧ k ∉ H) → Bk N (keepAll M l) H P (l ++ hs)
  | [], _, _, h, _ => h
  | i :: l, M, hs, h, hl => by
    have h1 := h.keep (i := i) (hl i (by simp))
    have h2 := Bk.keepAll (l := l) h1 (fun k hk h0 => ⟨fun e => (hl k (by simp [hk]) h0).1 (keepC_none.1 e), (hl k (by simp [hk]) h0).2⟩)
    refine h2.perm fun k _ => ?_
    simp only [List.count_append, List.count_cons]
    omega
theorem Bk.make (h : Bk N M H P (c.kids ++ hs)) {n : Nat} (h1 : 1 ≤ n) (hN : n < N) (hn : M n = none) (hc : c.kids.length ≤ 64) : Bk N (upd M n (some (c, 1))) H P (n :: hs) := by
  have hnH : n ∉ H := fun hH => by have := h.hole n hH; rw [hn] at this; simp [rf] at this
  have hb := h.ok.free h1 (blank_none.2 hn)
  refine ⟨?_, fun y hy => ⟨(h.hole y hy).1, ?_⟩, fun y => ?_⟩
  · rw [blank_upd hnH]
    refine (h.ok.make h1 hN (blank_none.2 hn) c (fun k _ => by rw [List.count_append]; omega)).congr fun k _ => ?_
    rw [List.count_append, List.count_cons]
    by_cases ek : k = n
    · subst ek; simp; omega
    · rw [if_neg ek, if_neg (by simpa using Ne.symm ek)]; omega
  · have hyn : y ≠ n := fun e => hnH (e ▸ hy)
    rw [upd_other _ _ hyn]; exact (h.hole y hy).2
  · by_cases e : y = n
    · subst e; rw [upd_same]; exact hc
    · rw [upd_other _ _ e]; exact h.small y
theorem Bk.open (h : Bk N M H P (i :: hs)) (hM : M i = some (c0, 1)) : Bk N M (i :: H) (addP P i) (c0.kids ++ hs) := by
  have hi := h.lt (j := i) (by rw [hM]; simp)
  have hiH := (h.hand (i := i) (by simp) (by omega)).2
  have hb : blank M H i = some (c0, 1) := by rw [blank_out hiH, hM]
  refine ⟨?_, fun y hy => ?_, h.small⟩
  · rw [blank_cons hM]
    refine (h.ok.edit (c := { c0 with kids := [] }) hb (by simp; omega) (fun _ _ => Nat.zero_le _) (by simp)).congr fun k _ => ?_
    show P k + (i :: hs).count k - 0 + c0.kids.count k = addP P i k + (c0.kids ++ hs).count k
    rw [List.count_append, List.count_cons]
    unfold addP
    by_cases ek : k = i
    · subst ek; simp; omega
    · rw [if_neg ek, if_neg (by simpa using Ne.symm ek)]; omega
  · rcases List.mem_cons.1 hy with rfl | hy
    · exact ⟨addP_self _ _, by rw [hM]; rfl⟩
    · exact ⟨Nat.le_trans (h.hole y hy).1 (addP_le _ _ _), (h.hole y hy).2⟩
theorem Bk.fill (h : Bk N M (i :: H) (addP P i) (c.kids ++ hs)) (hiH : i ∉ H) (hH : ∀ x ∈ H, 1 ≤ P x) (hM : M i = some (c0, 1)) (hc : c.kids.length ≤ 64) : Bk N (upd M i (some (c, 1))) H P (i :: hs) ∧ i ∉ c.kids := by
  have hi := h.lt (j := i) (by rw [hM]; simp)
  have hb : blank M (i :: H) i = some ({ c0 with kids := [] }, 1) := blank_in (by simp) hM
  have hbal := h.bal (i := i) hi.1
  have hcnt : c.kids.count i = 0 := by
    rw [hM] at hbal
    simp only [rf] at hbal
    have h1 : 1 ≤ addP P i i := addP_self P i
    have h2 : (c.kids ++ hs).count i = c.kids.count i + hs.count i := List.count_append
    omega
  have hni : i ∉ c.kids := List.count_eq_zero.1 hcnt
  refine ⟨⟨?_, fun y hy => ⟨hH y hy, ?_⟩, fun y => ?_⟩, hni⟩
  · rw [blank_fill hiH]
    refine (h.ok.edit hb (by have := addP_self P i; show 1 ≤ addP P i i + _; omega) (fun k _ => by rw [List.count_append]; omega) hni).congr fun k _ => ?_
    show addP P i k + (c.kids ++ hs).count k - c.kids.count k + 0 = P k + (i :: hs).count k
    rw [List.count_append, List.count_cons]
    unfold addP
    by_cases ek : k = i
    · subst ek; simp; omega
    · rw [if_neg ek, if_neg (by simpa using Ne.symm ek)]; omega
  · have hyi : y ≠ i := fun e => hiH (e ▸ hy)
    rw [upd_other _ _ hyi]; exact (h.hole y (by simp [hy])).2
  · by_cases e : y = i
    · subst e; rw [upd_same]; exact hc
    · rw [upd_other _ _ e]; exact h.small y

theorem drops_blank {t : List Nat} {own : Nat → Nat} (hd : Drops M t M') : Ok N (blank M H) own t → (∀ h ∈ H, 1 ≤ own h ∧ rf (M h) = 1) → Drops (blank M H) t (blank M' H) ∧ ∀ h ∈ H, M' h = M h := by
  induction hd with
  | done M => exact fun _ _ => ⟨.done _, fun _ _ => rfl⟩
  | @step M M' t x _ ih =>
    intro ho hH
    have hxH : x ∉ H := fun hx => by
      have h1 := hH x hx
      have hx1 : 1 ≤ x := by
        rcases Nat.eq_zero_or_pos x with e | e
        · subst e
          have := blank_none.1 ho.zero
          rw [this] at h1
          simp [rf] at h1
        · exact e
      have h2 := ho.bal x hx1
      rw [blank_rf, List.count_append, List.count_singleton_self] at h2
      omega
    have e1 : blank (release M x).1 H = (release (blank M H) x).1 ∧ (release M x).2 = (release (blank M H) x).2 := by
      unfold release
      rw [blank_out hxH]
      cases e : M x with
      | none => exact ⟨rfl, rfl⟩
      | some y =>
        by_cases hr : 1 < y.2
        · simp only [hr, if_true]
          exact ⟨blank_upd hxH _, trivial⟩
        · simp only [hr, if_false]
          exact ⟨blank_upd hxH _, trivial⟩
    have hrel : ∀ h ∈ H, (release M x).1 h = M h := fun h hh => by
      have hne : h ≠ x := fun e => hxH (e ▸ hh)
      unfold release
      cases e : M x with
      | none => rfl
      | some y =>
        by_cases hr : 1 < y.2
        · simp only [hr, if_true]; exact upd_other _ _ hne
        · simp only [hr, if_false]; exact upd_other _ _ hne
    obtain ⟨h1, _⟩ := ho.release (x := x) (s := t) (fun i => List.count_append)
    obtain ⟨a1, a2⟩ := ih (by rw [e1.1, e1.2]; exact h1) (fun h hh => by rw [hrel h hh]; exact hH h hh)
    refine ⟨.step ?_, fun h hh => (a2 h hh).trans (hrel h hh)⟩
    rw [← e1.1, ← e1.2]
    exact a1
theorem Bk.drop (h : Bk N M H P (i :: hs)) (hd : Drops M [i] M') : Bk N M' H P hs ∧ Sub (blank M' H) (blank M H) ∧ ∀ x ∈ H, M' x = M x := by
  have ho : Ok N (blank M H) (fun k => P k + hs.count k) [i] := by
    by_cases h0 : i = 0
    · subst h0
      refine ⟨h.ok.zero, h.ok.top, h.ok.pos, fun k hk => ?_, h.ok.rank⟩
      have := h.ok.bal k hk
      rw [List.count_singleton, if_neg (by simpa using (by omega : 0 ≠ k))]
      rw [List.count_cons_of_ne (by simpa using (by omega : 0 ≠ k))] at this
      simpa using this
    · refine (h.ok.give (i := i) (by simp; omega)).congr fun k _ => ?_
      show P k + (i :: hs).count k - _ = _
      rw [List.count_cons]
      by_cases ek : k = i
      · subst ek; simp
      · rw [if_neg ek, if_neg (by simpa using Ne.symm ek)]; omega
  obtain ⟨h1, h2⟩ := drops_blank hd ho (fun x hx => ⟨Nat.le_trans (h.hole x hx).1 (Nat.le_add_right _ _), (h.hole x hx).2⟩)
  obtain ⟨h3, h4⟩ := h1.ok ho
  refine ⟨⟨h3, fun x hx => ⟨(h.hole x hx).1, by rw [h2 x hx]; exact (h.hole x hx).2⟩, fun y => ?_⟩, h4, h2⟩
  by_cases hy : y ∈ H
  · rw [h2 y hy]; exact h.small y
  · cases e : M' y with
    | none => simp [kd]
    | some z =>
      obtain ⟨r0, e0, _⟩ := h4 y z.1 z.2 (by rw [blank_out hy, e])
      rw [blank_out hy] at e0
      have := h.small y
      rw [e0] at this
      exact this
end

inductive Reach (M : Cells) (r : Nat) : Nat → Prop
  | refl : Reach M r r
  | kid {x k : Nat} (h : Reach M r x) (hk : k ∈ kd (M x)) (h0 : k ≠ 0) : Reach M r k
def Pres (M M' : Cells) (r : Nat) : Prop := ∀ x c q, Reach M r x → M x = some (c, q) → ∃ q', M' x = some (c, q')
def Keeps (P : Nat → Nat) (M M' : Cells) : Prop := ∀ r, r ≠ 0 → 1 ≤ P r → Pres M M' r
section
variable {N : Nat} {M M' M'' : Cells} {own P : Nat → Nat} {t H hs : List Nat} {r i x : Nat}
theorem Pres.refl (M : Cells) (r : Nat) : Pres M M r := fun _ _ q _ h => ⟨q, h⟩
theorem Pres.reach (h : Pres M M' r) (hx : Reach M r x) : Reach M' r x := by
  induction hx with
  | refl => exact .refl
  | @kid x k hx hk h0 ih =>
    cases e : M x with
    | none => rw [e] at hk; simp [kd] at hk
    | some y =>
      obtain ⟨q', e'⟩ := h x y.1 y.2 hx e
      refine .kid ih ?_ h0
      rw [e']
      rw [e] at hk
      exact hk
theorem Pres.trans (h : Pres M M' r) (k : Pres M' M'' r) : Pres M M'' r := fun x c q hx e => by
  obtain ⟨q', e'⟩ := h x c q hx e
  exact k x c q' (h.reach hx) e'
theorem Keeps.refl (P : Nat → Nat) (M : Cells) : Keeps P M M := fun r _ _ => Pres.refl M r
theorem Keeps.trans (h : Keeps P M M') (k : Keeps P M' M'') : Keeps P M M'' := fun r h0 hr => (h r h0 hr).trans (k r h0 hr)
theorem Keeps.less {P' : Nat → Nat} (h : Keeps P M M') (hP : ∀ k, P' k ≤ P k) : Keeps P' M M' := fun r h0 hr => h r h0 (Nat.le_trans hr (hP r))
theorem Pres.all (h : ∀ x c q, M x = some (c, q) → ∃ q', M' x = some (c, q')) : Pres M M' r := fun x c q _ e => h x c q e
theorem Pres.kid {c : Hc} {q k : Nat} (h : Pres M M' r) (e : M r = some (c, q)) (hk : k ∈ c.kids) (h0 : k ≠ 0) : Pres M M' k := fun x c' q' hx e' => by
  refine h x c' q' ?_ e'
  have h1 : Reach M r k := .kid .refl (by rw [e]; exact hk) h0
  clear e'
  induction hx with
  | refl => exact h1
  | kid _ hk h0 ih => exact .kid ih hk h0
theorem Pres.sub (hs : Sub M' M) (h' : Ok N M' own t) (hr : M' r ≠ none) : Pres M M' r := by
  have key : ∀ x, Reach M r x → M x ≠ none → M' x ≠ none := fun x hx => by
    induction hx with
    | refl => exact fun _ => hr
    | @kid x k hx hk h0 ih =>
      intro _
      have hx' : M x ≠ none := fun e => by rw [e] at hk; simp [kd] at hk
      cases e : M' x with
      | none => exact absurd e (ih hx')
      | some y =>
        obtain ⟨r0, e0, _⟩ := hs x y.1 y.2 e
        refine h'.kid (j := x) ?_ h0
        rw [e]
        rw [e0] at hk
        exact hk
  intro x c q hx e
  cases e' : M' x with
  | none => exact absurd e' (key x hx (by rw [e]; simp))
  | some y =>
    obtain ⟨r0, e0, _⟩ := hs x y.1 y.2 e'
    rw [e] at e0
    simp only [Option.some.injEq, Prod.mk.injEq] at e0
    exact ⟨y.2, by rw [e0.1]⟩
theorem Ok.lone (h : Ok N M own t) (h1 : 1 ≤ i) (hr : rf (M i) = 1) (ho : 1 ≤ own i) (hne : r ≠ i) : ¬ Reach M r i := fun hx => by
  cases hx with
  | refl => exact hne rfl
  | @kid x _ hx hk h0 =>
    have hxn : M x ≠ none := fun e => by rw [e] at hk; simp [kd] at hk
    have h2 := count_le_occ (M := M) (h.lt hxn).2 i
    have h3 := List.count_pos_iff.2 hk
    have h4 := h.bal i h1
    omega
theorem Pres.edit (hn : ¬ Reach M r i) (z : Option (Hc × Nat)) : Pres M (upd M i z) r := fun x c q hx e => ⟨q, by
  have hxi : x ≠ i := fun e' => hn (e' ▸ hx)
  rw [upd_other _ _ hxi]; exact e⟩
theorem Bk.pres_open {c0 : Hc} (h : Bk N M H P (i :: hs)) (hM : M i = some (c0, 1)) (hr : r ≠ i) : Pres (blank M H) (blank M (i :: H)) r := by
  have hi := h.lt (j := i) (by rw [hM]; simp)
  rw [blank_cons hM]
  exact Pres.edit (h.ok.lone hi.1 (by rw [blank_rf, hM]; rfl) (by simp; omega) hr) _
theorem Bk.pres_fill {c0 c : Hc} (h : Bk N M (i :: H) (addP P i) hs) (hiH : i ∉ H) (hM : M i = some (c0, 1)) (hr : r ≠ i) : Pres (blank M (i :: H)) (blank (upd M i (some (c, 1))) H) r := by
  have hi := h.lt (j := i) (by rw [hM]; simp)
  rw [blank_fill hiH]
  exact Pres.edit (h.ok.lone hi.1 (by rw [blank_rf, hM]; rfl) (Nat.le_trans (addP_self P i) (Nat.le_add_right _ _)) hr) _
theorem all_keepC (x : Nat) (c : Hc) (q : Nat) (e : M x = some (c, q)) : ∃ q', keepC M i x = some (c, q') := by
  unfold keepC
  cases ei : M i with
  | none => exact ⟨q, e⟩
  | some y =>
    by_cases hx : x = i
    · subst hx
      rw [e] at ei
      simp only [Option.some.injEq] at ei
      subst ei
      exact ⟨q + 1, upd_same _ _ _⟩
    · exact ⟨q, by show upd M i _ x = _; rw [upd_other _ _ hx]; exact e⟩
theorem all_keepAll : ∀ {l : List Nat} {M : Cells} (x : Nat) (c : Hc) (q : Nat), M x = some (c, q) → ∃ q', keepAll M l x = some (c, q')
  | [], _, _, _, q, e => ⟨q, e⟩
  | i :: l, M, x, c, q, e => by
    obtain ⟨q', e'⟩ := all_keepC (i := i) x c q e
    exact all_keepAll (l := l) x c q' e'
theorem all_blank {H : List Nat} (h : ∀ x c q, M x = some (c, q) → ∃ q', M' x = some (c, q')) (x : Nat) (c : Hc) (q : Nat) (e : blank M H x = some (c, q)) : ∃ q', blank M' H x = some (c, q') := by
  by_cases hx : x ∈ H
  · cases eM : M x with
    | none => rw [blank_none.2 eM] at e; cases e
    | some y =>
      rw [blank_in hx eM] at e
      simp only [Option.some.injEq, Prod.mk.injEq] at e
      obtain ⟨q', e'⟩ := h x y.1 y.2 eM
      exact ⟨q', by rw [blank_in hx e', e.1]⟩
  · rw [blank_out hx] at e ⊢
    exact h x c q e
theorem all_new {n : Nat} (hn : M n = none) (z : Option (Hc × Nat)) (x : Nat) (c : Hc) (q : Nat) (e : M x = some (c, q)) : ∃ q', upd M n z x = some (c, q') :=
  ⟨q, by rw [upd_other _ _ (fun e' => by rw [e', hn] at e; cases e)]; exact e⟩
end

end Go.Proofs.YtkkfhbcnfknmaaaGreat

namespace Go.Proofs.YtkkfhbcnfknmaaaGreat
set_option maxRecDepth 100000
open Go.RowKit

section
variable {b most : Nat} {M : Cells} {F : Nat → Prop}
set_option maxRecDepth 100000 in
theorem vBegin_no (ow : Int) (need : Nat) (v : Value) (w : World) (h : Ar w b most M F) (hn : most < live (most + 1) M + need) : Calls Tryz.prog 176 #[ap b, .int .u32 ow, .int .i64 (need : Int), v] w fun e w' => e = .returned (.bool false) ∧ Below w.heap.size w w' := by
  have HA := Lib.hid h
  have hlt : (most : Int) - (live (most + 1) M : Nat) < (need : Int) := by omega
  clear h
  go_enter Tryz.func176, Tryz.ntmps176
  go_wp2_with fail
  refine (aroom b most M F _ HA.out).mono ?_
  rintro e w2 ⟨rfl, k, rfl⟩
  have HE := Lib.hid (below_drewN w k)
  go_wp2_with fail
  go_ret
  exact ⟨rfl, HE.out⟩
set_option maxRecDepth 100000 in
theorem vBegin_own (ow : Int) (need : Nat) (v : Value) (w : World) (h : Ar w b most M F) (hn : live (most + 1) M + need ≤ most) (h0 : ¬ ow = 0) : Calls Tryz.prog 176 #[ap b, .int .u32 ow, .int .i64 (need : Int), v] w fun e w' => e = .returned (.bool true) ∧ Below w.heap.size w w' := by
  have HA := Lib.hid h
  have hlt : ¬ (most : Int) - (live (most + 1) M : Nat) < (need : Int) := by omega
  clear h
  go_enter Tryz.func176, Tryz.ntmps176
  go_wp2_with fail
  refine (aroom b most M F _ HA.out).mono ?_
  rintro e w2 ⟨rfl, k, rfl⟩
  have HE := Lib.hid (below_drewN w k)
  go_wp2_with fail
  go_ret
  exact ⟨rfl, HE.out⟩
set_option maxRecDepth 100000 in
set_option maxHeartbeats 800000 in
theorem vBegin_keep (need : Nat) (ks : List Nat) (v : Value) (w : World) (h : Ar w b most M F) (hn : live (most + 1) M + need ≤ most) (hv : Rd w v ks.length (nums (ns ks))) (hO : ∀ x, v.ownBlock = some x → ¬ F x ∧ x < w.heap.size) (hl : ks.length ≤ 4194304) (hr : ∀ j, rf (M j) + ks.length ≤ 4611686018427387902) :
    Calls Tryz.prog 176 #[ap b, .int .u32 0, .int .i64 (need : Int), v] w fun e w' => e = .returned (.bool true) ∧ Stp w w' b most (keepAll M ks) F := by
  obtain ⟨A, c, rfl, hc⟩ := hv.form
  have HA := Lib.hid h
  have HV := Lib.hid hv
  have HR := Lib.hid hr
  have HO := Lib.hid hO
  have HF := Lib.hid (show ∀ x, F x → x < w.heap.size from fun x hx => h.lt hx)
  have hlt : ¬ (most : Int) - (live (most + 1) M : Nat) < (need : Int) := by omega
  clear h hv hr hO
  go_enter Tryz.func176, Tryz.ntmps176
  go_wp2_with fail
  refine (aroom b most M F _ HA.out).mono ?_
  rintro e w2 ⟨rfl, k, rfl⟩
  have HE := Lib.hid (below_drewN w k)
  have HS0 := Lib.hid (Stp.below HA.out (below_drewN w k))
  go_wp2_with fail
  go_loopg [19] ks.length (fun c' i wr => ∃ j : Nat, j + c' = ks.length ∧ i = .int .i64 j ∧ Stp w wr b most (keepAll M (ks.take j)) F)
  case atStart => exact ⟨0, by omega, rfl, HS0.out⟩
  case round =>
    obtain ⟨j, hj, rfl, hs⟩ := hrel
    by_cases h1 : j < ks.length
    · obtain ⟨x, hx⟩ : ∃ x, ks[j]? = some x := ⟨_, List.getElem?_eq_getElem h1⟩
      obtain ⟨g, o, c', e, _, hcell⟩ := (hs.kp.rd HV.out (fun x hx => (HO.out x hx).1)).at (j := j) (u := .int .i64 (x : Int)) (by rw [nums_at]; unfold ns; rw [List.getElem?_map, hx]; rfl)
      injection e with e1 e2 e3
      subst e1 e3
      have HX := Lib.hid hx
      have HS := Lib.hid hs
      clear hx hs
      have hrx : rf (keepAll M (ks.take j) x) ≤ 4611686018427387904 := by
        have h1 := keepAll_rf (j := x) (l := ks.take j) (M := M)
        have h2 := HR.out x
        rw [List.length_take] at h1
        omega
      go_wp2_with (go_at_call 76; refine (vkeep1 x _ HS.out.ar hrx).mono ?_; rintro e w3 ⟨⟨zz, rfl⟩, hs3⟩; have HS3 := Lib.hid hs3; clear hs3)
      go_roundg (ks.length - (j + 1))
      case measure => omega
      case rel =>
        refine ⟨j + 1, by omega, by go_num, ?_⟩
        rw [List.take_add_one, HX.out, Option.toList_some, keepAll_snoc]
        exact HS.out.trans HS3.out
    · obtain rfl : j = ks.length := by omega
      have HS := Lib.hid (show Stp w wr b most (keepAll M ks) F by rw [List.take_length] at hs; exact hs)
      clear hs
      go_wp2_with fail
      go_ret
      exact ⟨rfl, HS.out⟩
end
end Go.Proofs.YtkkfhbcnfknmaaaGreat

namespace Go.Proofs.YtkkfhbcnfknmaaaGreat
set_option maxRecDepth 100000

abbrev Vs := List (Int × Int × ByteArray)
structure Vc where
  n : Nat
  root : Nat
  tail : Nat
def Leaf (M : Cells) (x : Nat) (vs : Vs) : Prop := ∃ c r, M x = some (c, r) ∧ c.vals = vs ∧ c.kids = []
def chunk (l : Vs) (k : Nat) : Vs := (l.drop (32 * k)).take 32
structure VecIs (M : Cells) (v : Vc) (l : Vs) : Prop where
  n : v.n = l.length
  le : l.length ≤ 1024
  nil : l = [] → v.root = 0 ∧ v.tail = 0
  tl : l ≠ [] → Leaf M v.tail (chunk l ((l.length - 1) / 32))
  r0 : l.length ≤ 32 → v.root = 0
  rt : 32 < l.length → ∃ c r, M v.root = some (c, r) ∧ c.vals = [] ∧ c.kids.length = (l.length - 1) / 32 ∧ ∀ k x, c.kids[k]? = some x → Leaf M x (chunk l k)
theorem VecIs.empty (M : Cells) : VecIs M ⟨0, 0, 0⟩ [] := ⟨rfl, Nat.zero_le _, fun _ => ⟨rfl, rfl⟩, fun h => absurd rfl h, fun _ => rfl, fun h => by simp at h⟩

end Go.Proofs.YtkkfhbcnfknmaaaGreat

namespace Go.Proofs.YtkkfhbcnfknmaaaGreat
set_option maxRecDepth 100000
open Go.RowKit

def C3 (w : World) (b : Nat) (t : TypeId) (x0 x1 x2 : Value) : Prop := w.heap[b]? = some (.cells #[x0, x1, x2] t (0, 0))
section
variable {w w' : World} {b : Nat} {t : TypeId} {x0 x1 x2 : Value}
theorem C3.c0 (h : C3 w b t x0 x1 x2) : w.cell? ⟨b, 0, none⟩ = some x0 := by simpa using cell_of_row w b 0 _ _ (0, 0) h
theorem C3.c1 (h : C3 w b t x0 x1 x2) : w.cell? ⟨b, 1, none⟩ = some x1 := by simpa using cell_of_row w b 1 _ _ (0, 0) h
theorem C3.c2 (h : C3 w b t x0 x1 x2) : w.cell? ⟨b, 2, none⟩ = some x2 := by simpa using cell_of_row w b 2 _ _ (0, 0) h
theorem C3.fz (h : C3 w b t x0 x1 x2) (i : Nat) : w.frozen? ⟨b, i, none⟩ = false := frozen_of_row w b i _ _ h
theorem C3.all (h : C3 w b t x0 x1 x2) : w.cell? ⟨b, 0, none⟩ = some x0 ∧ w.cell? ⟨b, 1, none⟩ = some x1 ∧ w.cell? ⟨b, 2, none⟩ = some x2 ∧ w.frozen? ⟨b, 0, none⟩ = false ∧ w.frozen? ⟨b, 1, none⟩ = false ∧ w.frozen? ⟨b, 2, none⟩ = false :=
  ⟨h.c0, h.c1, h.c2, h.fz 0, h.fz 1, h.fz 2⟩
theorem C3.set0 (h : C3 w b t x0 x1 x2) (y : Value) : C3 (w.setCell ⟨b, 0, none⟩ y) b t y x1 x2 := by
  have := heap_setCell_same w b 0 _ _ y h
  simpa [C3] using this
theorem C3.set1 (h : C3 w b t x0 x1 x2) (y : Value) : C3 (w.setCell ⟨b, 1, none⟩ y) b t x0 y x2 := by
  have := heap_setCell_same w b 1 _ _ y h
  simpa [C3] using this
theorem C3.set2 (h : C3 w b t x0 x1 x2) (y : Value) : C3 (w.setCell ⟨b, 2, none⟩ y) b t x0 x1 y := by
  have := heap_setCell_same w b 2 _ _ y h
  simpa [C3] using this
theorem C3.other (h : C3 w b t x0 x1 x2) {g o : Nat} (hg : b ≠ g) (y : Value) : C3 (w.setCell ⟨g, o, none⟩ y) b t x0 x1 x2 := (Below.heap_setCell w ⟨g, o, none⟩ y b hg).trans h
theorem C3.lt (h : C3 w b t x0 x1 x2) : b < w.heap.size := (Array.getElem?_eq_some_iff.1 h).1
theorem C3.kp {F : Nat → Prop} (h : C3 w b t x0 x1 x2) (hk : Kp F w w') (hF : ¬ F b) : C3 w' b t x0 x1 x2 := hk.at h hF
theorem C3.below (h : C3 w b t x0 x1 x2) (hb : Below w.heap.size w w') : C3 w' b t x0 x1 x2 := (hb.block b h.lt).trans h
theorem C3.new (w : World) (t : TypeId) (x0 x1 x2 : Value) : C3 (w.alloc (.cells #[x0, x1, x2] t)) w.heap.size t x0 x1 x2 := heap_alloc_new w _
theorem C3.alloc (h : C3 w b t x0 x1 x2) (o : Obj) : C3 (w.alloc o) b t x0 x1 x2 := (Below.heap_alloc w o b h.lt).trans h
end
abbrev xagg (x : Int × Int × ByteArray) : Value := .agg #[.int .u8 x.1, .int .i64 x.2.1, .string x.2.2]
section
variable {b most : Nat} {M M' : Cells} {F : Nat → Prop}
theorem Stp.from {w w1 w2 : World} (hF : ∀ x, F x → x < w.heap.size) (hb : Below w.heap.size w w1) (h : Stp w1 w2 b most M' F) : Stp w w2 b most M' F :=
  ⟨h.ar.mono (fun _ hx => hx.imp id (fun hx => ⟨Nat.le_trans hb.size hx.1, hx.2⟩)) (fun x hx => hx.elim (fun hx => Nat.lt_of_lt_of_le (hF x hx) (Nat.le_trans hb.size h.kp.size)) (fun hx => hx.2)), (Kp.of_below hb F).trans h.kp (fun _ => .inl)⟩
end
section
variable {b most : Nat} {M : Cells} {F : Nat → Prop}
theorem Stp.close {M' : Cells} {w w1 w2 w3 : World} (hF : ∀ x, F x → x < w.heap.size) (hb : Below w.heap.size w w1) (h : Stp w1 w2 b most M' F) {G : Nat → Prop} (hk : Kp G w2 w3) (hG : ∀ g, G g → w.heap.size ≤ g ∧ g < w1.heap.size) : Stp w w3 b most M' F := by
  have h1 := h.ar.kp hk (fun k hk' hg => by
    have := hG k hg
    rcases hk' with hk' | hk'
    · have := hF k hk'; omega
    · omega)
  refine ⟨h1.mono (fun x hx => hx.imp id (fun hx => ⟨Nat.le_trans hb.size hx.1, Nat.lt_of_lt_of_le hx.2 hk.size⟩)) (fun x hx => hx.elim (fun hx => Nat.lt_of_lt_of_le (hF x hx) (Nat.le_trans hb.size (Nat.le_trans h.kp.size hk.size))) (fun hx => hx.2)), ((Kp.of_below hb F).trans h.kp (fun _ => .inl)).trans hk (fun g hg => .inr (hG g hg).1)⟩
theorem Stp.not {M' : Cells} {w w' : World} (_hF : ∀ x, F x → x < w.heap.size) (_h : Stp w w' b most M' F) {g : Nat} (hg : g < w.heap.size) (hn : ¬ F g) : ¬ Fn F w w' g := by
  rintro (e | e)
  · exact hn e
  · omega
structure Rn (w w' : World) (b most : Nat) (M' : Cells) (F F' : Nat → Prop) : Prop where
  ar : Ar w' b most M' F'
  kp : Kp F w w'
  sub : ∀ x, F' x → F x ∨ w.heap.size ≤ x
section
variable {M' M'' : Cells} {w w' w'' : World} {F' : Nat → Prop}
theorem Rn.below (h : Ar w b most M F) (hb : Below w.heap.size w w') : Rn w w' b most M F F := ⟨h.below hb, Kp.of_below hb F, fun _ => .inl⟩
theorem Rn.stp (h : Rn w w' b most M' F F') (k : Stp w' w'' b most M'' F') : Rn w w'' b most M'' F (Fn F' w' w'') :=
  ⟨k.ar, h.kp.trans k.kp h.sub, fun x hx => by
    rcases hx with hx | hx
    · exact h.sub x hx
    · exact .inr (Nat.le_trans h.kp.size hx.1)⟩
theorem Rn.mine {G : Nat → Prop} (h : Rn w w' b most M' F F') (hk : Kp G w' w'') (hG : ∀ g, G g → w.heap.size ≤ g ∧ ¬ F' g) : Rn w w'' b most M' F F' :=
  ⟨h.ar.kp hk (fun x hx hg => (hG x hg).2 hx), h.kp.trans hk (fun g hg => .inr (hG g hg).1), h.sub⟩
theorem Rn.fin (h : Rn w w' b most M' F F') (hF : ∀ x, F x → x < w.heap.size) : Stp w w' b most M' F :=
  ⟨h.ar.mono (fun x hx => (h.sub x hx).imp id (fun hx' => ⟨hx', h.ar.lt hx⟩)) (fun x hx => hx.elim (fun hx => Nat.lt_of_lt_of_le (hF x hx) h.kp.size) (fun hx => hx.2)), h.kp⟩
end
theorem sumTo_mono {f g : Nat → Nat} (h : ∀ j, f j ≤ g j) : ∀ n, sumTo n f ≤ sumTo n g
  | 0 => Nat.le_refl _
  | n + 1 => by simp only [sumTo]; exact Nat.add_le_add (sumTo_mono h n) (h n)
theorem release_live {N : Nat} (x : Nat) : live N (release M x).1 ≤ live N M := by
  unfold live
  have key : ∀ j, one ((release M x).1 j) ≤ one (M j) := fun j => by
    cases e : M j with
    | none =>
      have h1 : (release M x).1 j = none := by
        have h2 := release_rf (M := M) x j
        unfold release
        cases hM : M x with
        | none => exact e
        | some y =>
          obtain ⟨c, r⟩ := y
          by_cases e' : j = x
          · subst e'; rw [e] at hM; cases hM
          · show (if 1 < r then (upd M x (some (c, r - 1)), []) else (upd M x none, c.kids)).1 j = none
            split
            · show upd M x (some (c, r - 1)) j = none; rw [upd_other _ _ e']; exact e
            · show upd M x none j = none; rw [upd_other _ _ e']; exact e
      rw [h1]; exact Nat.le_refl _
    | some y =>
      cases (release M x).1 j with
      | none => exact Nat.zero_le _
      | some z => exact Nat.le_refl _
  exact sumTo_mono key N
theorem drops_live {N : Nat} {M' : Cells} {t : List Nat} (h : Drops M t M') : live N M' ≤ live N M := by
  induction h with
  | done M => exact Nat.le_refl _
  | step _ ih => exact Nat.le_trans ih (release_live _)
theorem Renewed.live_le {i n : Nat} {ow : Int} {c : Hc} {M' : Cells} (h : Renewed M i ow c most n M') : live (most + 1) M' ≤ live (most + 1) M + (if aloneB M i ow = true then 0 else 1) := by
  unfold Renewed at h
  split at h
  · rename_i hal
    obtain ⟨rfl, rfl⟩ := h
    rw [if_pos hal]
    have h2 : M n ≠ none := by
      unfold aloneB at hal
      intro e
      rw [e] at hal
      simp at hal
    by_cases hlt : n < most + 1
    · have h1 := live_upd (M := M) (N := most + 1) n (some ({ c with owner := ow }, 1)) hlt
      cases e : M n with
      | none => exact absurd e h2
      | some y => rw [e] at h1; simp only [one] at h1; omega
    · have : live (most + 1) (upd M n (some ({ c with owner := ow }, 1))) = live (most + 1) M := sumTo_congr _ fun j hj => by rw [upd_other _ _ (by omega)]
      omega
  · rename_i hal
    obtain ⟨n1, n2, n3, hd⟩ := h
    rw [if_neg hal]
    have h0 := drops_live (N := most + 1) hd
    have h1 := live_upd (M := keepAll M (contC M i).kids) (N := most + 1) n (some ({ c with owner := ow }, 1)) (by omega)
    have h3 : keepAll M (contC M i).kids n = none := keepAll_none.2 n3
    rw [h3] at h1
    simp only [one] at h1
    rw [keepAll_live] at h1
    omega
end

end Go.Proofs.YtkkfhbcnfknmaaaGreat

namespace Go.Proofs.YtkkfhbcnfknmaaaGreat
set_option maxRecDepth 100000
open Go.RowKit

def ChgS (f : FuncId) (caps : Array Value) (b most : Nat) (F : Nat → Prop) (w : World) (M1 : Cells) (c : Hc) (R : Hc → Cells → Prop) : Prop :=
  ∀ (o : Int) (v k : Value) (W : World) (F1 : Nat → Prop), Rn w W b most M1 F F1 → (∀ q, v.ownBlock = some q → ¬ F1 q) → (∀ q, k.ownBlock = some q → ¬ F1 q) → W.ownsRow w.heap.size 36 3 v c.vals.length (c.vals.flatMap cells3) → W.ownsRow w.heap.size 3 1 k c.kids.length (nums (ns c.kids)) →
    Calls Tryz.prog f (#[cagg o c.a c.b v k] ++ caps) W fun e W' => ∃ v' k' c' M2 F2, e = .returned (cagg o c'.a c'.b v' k') ∧ Rd W' v' c'.vals.length (c'.vals.flatMap cells3) ∧ Rd W' k' c'.kids.length (nums (ns c'.kids)) ∧ Rn w W' b most M2 F F2 ∧ (∀ q, v'.ownBlock = some q → ¬ F2 q) ∧ (∀ q, k'.ownBlock = some q → ¬ F2 q) ∧ R c' M2
section
variable {b most : Nat} {M : Cells} {F : Nat → Prop}
end

end Go.Proofs.YtkkfhbcnfknmaaaGreat

namespace Go.Proofs.YtkkfhbcnfknmaaaGreat
set_option maxRecDepth 100000
open Go.RowKit

section
variable {b most : Nat} {M : Cells} {F : Nat → Prop}
end

end Go.Proofs.YtkkfhbcnfknmaaaGreat

namespace Go.Proofs.YtkkfhbcnfknmaaaGreat
set_option maxRecDepth 100000
open Go.RowKit

theorem live_mono {N : Nat} {A B : Cells} (h : ∀ j, A j ≠ none → B j ≠ none) : live N A ≤ live N B := sumTo_mono (fun j => by
  cases e : A j with
  | none => exact Nat.zero_le _
  | some x =>
    cases e' : B j with
    | none => exact absurd e' (h j (by rw [e]; simp))
    | some y => exact Nat.le_refl _) N
theorem live_upd_some (N : Nat) {A : Cells} {x : Nat} (hx : A x ≠ none) (z : Hc × Nat) : live N (upd A x (some z)) = live N A := by
  refine sumTo_congr N fun j _ => ?_
  by_cases e : j = x
  · subst e
    rw [upd_same]
    cases e1 : A j with
    | none => exact absurd e1 hx
    | some y => rfl
  · rw [upd_other _ _ e]
theorem good_kids {M : Cells} {l : List Nat} (h : ∀ q ∈ l, q ≠ 0 → M q ≠ none) : (ns l).all (goodB M) = true := by
  rw [List.all_eq_true]
  intro y hy
  unfold ns at hy
  obtain ⟨q, hq, rfl⟩ := List.mem_map.1 hy
  unfold goodB
  have e : M ((q : Int)).toNat = M q := by rw [Int.toNat_natCast]
  rw [e]
  by_cases h0 : q = 0
  · subst h0; simp
  · cases e1 : M q with
    | none => exact absurd e1 (h q hq h0)
    | some z => simp; omega

structure Fun (most : Nat) (M1 : Cells) (H1 : List Nat) (P1 : Nat → Nat) (q : Nat) (Q : Hc → Cells → Prop) (c' : Hc) (M2 : Cells) : Prop where
  bk : Bk (most + 1) M2 H1 P1 c'.kids
  keeps : Keeps P1 (blank M1 H1) (blank M2 H1)
  holes : ∀ x ∈ H1, M2 x = M1 x
  live : live (most + 1) M2 ≤ Proofs.YtkkfhbcnfknmaaaGreat.live (most + 1) M1 + q
  nv : c'.vals.length ≤ 4194304
  nk : c'.kids.length ≤ 64
  q : Q c' M2
def Way (M : Cells) (H : List Nat) (i : Nat) (ow : Int) (c0 : Hc) (M1 : Cells) (H1 : List Nat) : Prop :=
  (aloneB M i ow = true ∧ M1 = M ∧ H1 = i :: H) ∨ (aloneB M i ow = false ∧ M1 = keepAll M c0.kids ∧ H1 = H)
structure Way1 (most : Nat) (M : Cells) (H : List Nat) (P : Nat → Nat) (i : Nat) (ow : Int) (c0 : Hc) (M1 : Cells) (H1 : List Nat) : Prop where
  way : Way M H i ow c0 M1 H1
  bk : Bk (most + 1) M1 H1 (addP P i) c0.kids
  keeps : Keeps P (blank M H) (blank M1 H1)
  kids : ∀ k ∈ c0.kids, k ≠ 0 → Pres (blank M H) (blank M1 H1) k
  live : live (most + 1) M1 = Proofs.YtkkfhbcnfknmaaaGreat.live (most + 1) M
structure Ren (most : Nat) (M : Cells) (H : List Nat) (P : Nat → Nat) (ow : Int) (q : Nat) (n : Nat) (M' : Cells) (c' : Hc) (M2 : Cells) (H1 : List Nat) : Prop where
  pos : 1 ≤ n
  bk : Bk (most + 1) M' H P [n]
  cell : M' n = some ({ c' with owner := ow }, 1)
  keeps : Keeps P (blank M H) (blank M' H)
  kids : ∀ k ∈ c'.kids, k ≠ 0 → Pres (blank M2 H1) (blank M' H) k
  holes : ∀ x ∈ H, M' x = M x
  live : live (most + 1) M' ≤ Proofs.YtkkfhbcnfknmaaaGreat.live (most + 1) M + q

theorem alone_cell {M : Cells} {i : Nat} {ow : Int} (h : aloneB M i ow = true) : ∃ c, M i = some (c, 1) ∧ c.owner = ow ∧ ¬ ow = 0 := by
  unfold aloneB at h
  cases e : M i with
  | none => rw [e] at h; simp at h
  | some y =>
    obtain ⟨c, r⟩ := y
    rw [e] at h
    simp at h
    obtain ⟨h0, h1, h2⟩ := h
    exact ⟨c, by rw [h1], h2, h0⟩
section
variable {b most : Nat} {M : Cells} {F : Nat → Prop} {H : List Nat} {P : Nat → Nat}
theorem way_in {i : Nat} {ow : Int} {c0 : Hc} (hb : Bk (most + 1) M H P [i]) (hM : M i = some (c0, 1)) (hal : aloneB M i ow = true) : Way1 most M H P i ow c0 M (i :: H) := by
  have hi := hb.lt (j := i) (by rw [hM]; simp)
  have hiH := (hb.hand (i := i) (by simp) (by omega)).2
  have hP0 : P i = 0 := by
    have := hb.bal (i := i) hi.1
    rw [hM] at this
    simp only [rf, List.count_singleton_self] at this
    omega
  refine ⟨.inl ⟨hal, rfl, rfl⟩, ?_, fun r h0 hr => hb.pres_open hM (fun e => by rw [e] at hr; omega), fun k hk h0 => hb.pres_open hM (fun e => ?_), rfl⟩
  · have := hb.open hM
    rwa [List.append_nil] at this
  · subst e
    have h1 : k ∈ kd (blank M H k) := by rw [blank_out hiH, hM]; exact hk
    have h2 := count_le_occ (M := blank M H) hi.2 k
    have h3 := List.count_pos_iff.2 h1
    have h4 := hb.bal (i := k) hi.1
    rw [hM] at h4
    simp only [rf, List.count_singleton_self] at h4
    omega
theorem way_new {i : Nat} {ow : Int} {c0 : Hc} (hb : Bk (most + 1) M H P [i]) (hc0 : contC M i = c0) (hal : aloneB M i ow = false) : Way1 most M H P i ow c0 (keepAll M c0.kids) H := by
  refine ⟨.inr ⟨hal, rfl, rfl⟩, ?_, fun r h0 hr => Pres.all (all_blank all_keepAll), fun k hk h0 => Pres.all (all_blank all_keepAll), keepAll_live⟩
  have h1 := hb.keepAll (l := c0.kids) (fun k hk h0 => by
    cases e : M i with
    | none =>
      have : c0.kids = [] := by rw [← hc0]; unfold contC; rw [e]
      rw [this] at hk
      simp at hk
    | some y =>
      have hi := hb.lt (j := i) (by rw [e]; simp)
      have hiH := (hb.hand (i := i) (by simp) (by omega)).2
      have e0 : c0 = y.1 := by rw [← hc0]; unfold contC; rw [e]
      rw [e0] at hk
      exact hb.kid hiH (show M i = some (y.1, y.2) from e) hk h0)
  refine h1.move (fun k hk => ?_) (fun x hx => Nat.le_trans (hb.hole x hx).1 (addP_le _ _ _))
  rw [List.count_append, List.count_singleton]
  unfold addP
  by_cases ek : k = i
  · subst ek; simp; omega
  · rw [if_neg ek, if_neg (by simpa using Ne.symm ek)]; omega

theorem alone_held {P0 : Nat → Nat} {i : Nat} (hb : Bk (most + 1) M H P0 [i]) {c : Hc} (hM : M i = some (c, 1)) : P0 i = 0 ∧ occ (most + 1) (blank M H) i = 0 := by
  have hi := hb.lt (j := i) (by rw [hM]; simp)
  have := hb.bal (i := i) hi.1
  rw [hM] at this
  simp only [rf, List.count_singleton_self] at this
  omega
end

end Go.Proofs.YtkkfhbcnfknmaaaGreat

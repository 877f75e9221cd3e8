/- Several texts in one. -/
import Derived.IntWalk
import Derived.Test.YtkkfhbcnfknmaaaGreatProg
import Derived.Test.YtkkfhbcnfknmaaaGreatMg01
import Derived.Test.YtkkfhbcnfknmaaaGreatMg02
import Derived.WalkLawsBesides
import Derived.WalkSpells
import Derived.Deep.RegionWith
import Derived.RegionTactic
import Derived.RegionCalls
import Derived.BigQuiet
import Derived.Deep.QuietTactic
import Derived.Laws.LoneSync
import Derived.Laws.NewBlocks
import Derived.Laws.Pointers
namespace Go.Proofs.YtkkfhbcnfknmaaaGreat

structure Hc where
  owner : Int
  a : Int
  b : Int
  vals : List (Int × Int × ByteArray)
  kids : List Nat

abbrev Cells := Nat → Option (Hc × Nat)

def upd {α : Type} (f : Nat → α) (i : Nat) (v : α) : Nat → α := fun j => if j = i then v else f j
section
variable {α β : Type}
theorem upd_same (f : Nat → α) (i : Nat) (v : α) : upd f i v i = v := if_pos rfl
theorem upd_other (f : Nat → α) {i j : Nat} (v : α) (h : j ≠ i) : upd f i v j = f j := if_neg h
theorem upd_comp (g : α → β) (f : Nat → α) (i : Nat) (v : α) : (fun j => g (upd f i v j)) = upd (fun j => g (f j)) i (g v) := by
  funext j; unfold upd; split <;> rfl
end

def sumTo : Nat → (Nat → Nat) → Nat
  | 0, _ => 0
  | n + 1, f => sumTo n f + f n
theorem sumTo_congr {f g : Nat → Nat} : ∀ (n : Nat), (∀ j, j < n → f j = g j) → sumTo n f = sumTo n g
  | 0, _ => rfl
  | n + 1, h => by rw [sumTo, sumTo, sumTo_congr n (fun j hj => h j (by omega)), h n (by omega)]
theorem sumTo_upd_out (f : Nat → Nat) (i v : Nat) : ∀ (n : Nat), n ≤ i → sumTo n (upd f i v) = sumTo n f :=
  fun n h => sumTo_congr n fun j hj => upd_other f v (by omega)
theorem sumTo_upd (f : Nat → Nat) (i v : Nat) : ∀ (n : Nat), i < n → sumTo n (upd f i v) + f i = sumTo n f + v
  | 0, h => by omega
  | n + 1, h => by
    rw [sumTo, sumTo]
    by_cases e : i = n
    · subst e; rw [sumTo_upd_out f i v i (Nat.le_refl _), upd_same]; omega
    · rw [upd_other f v (Ne.symm e)]; have := sumTo_upd f i v n (by omega); omega
theorem le_sumTo (f : Nat → Nat) {i : Nat} : ∀ (n : Nat), i < n → f i ≤ sumTo n f
  | 0, h => by omega
  | n + 1, h => by
    rw [sumTo]
    by_cases e : i = n
    · subst e; omega
    · have := le_sumTo f n (show i < n by omega); omega
theorem sumTo_pos {f : Nat → Nat} : ∀ {n : Nat}, 0 < sumTo n f → ∃ j, j < n ∧ 0 < f j
  | 0, h => by simp [sumTo] at h
  | n + 1, h => by
    rw [sumTo] at h
    by_cases e : 0 < f n
    · exact ⟨n, by omega, e⟩
    · obtain ⟨j, hj, hf⟩ := sumTo_pos (n := n) (f := f) (by omega); exact ⟨j, by omega, hf⟩
theorem sumTo_zero {f : Nat → Nat} {n : Nat} (h : ∀ j, j < n → f j = 0) : sumTo n f = 0 := by
  rcases Nat.eq_zero_or_pos (sumTo n f) with e | e
  · exact e
  · obtain ⟨j, hj, hf⟩ := sumTo_pos e; have := h j hj; omega
theorem sumTo_le {f : Nat → Nat} (b : Nat) : ∀ (n : Nat), (∀ j, j < n → f j ≤ b) → sumTo n f ≤ n * b
  | 0, _ => by simp [sumTo]
  | n + 1, h => by
    rw [sumTo, Nat.succ_mul]
    exact Nat.add_le_add (sumTo_le b n fun j hj => h j (by omega)) (h n (by omega))

def kd : Option (Hc × Nat) → List Nat
  | none => []
  | some x => x.1.kids
def rf : Option (Hc × Nat) → Nat
  | none => 0
  | some x => x.2
def one : Option (Hc × Nat) → Nat
  | none => 0
  | some _ => 1
def occ (N : Nat) (M : Cells) (i : Nat) : Nat := sumTo N fun j => (kd (M j)).count i
def live (N : Nat) (M : Cells) : Nat := sumTo N fun j => one (M j)
def load (N : Nat) (M : Cells) : Nat := sumTo N fun j => rf (M j) + (kd (M j)).length

section
variable {N : Nat} {M : Cells}
theorem occ_upd (i : Nat) (v : Option (Hc × Nat)) (k : Nat) (h : i < N) : occ N (upd M i v) k + (kd (M i)).count k = occ N M k + (kd v).count k := by
  unfold occ
  rw [upd_comp (fun x => (kd x).count k) M i v]
  exact sumTo_upd _ _ _ _ h
theorem live_upd (i : Nat) (v : Option (Hc × Nat)) (h : i < N) : live N (upd M i v) + one (M i) = live N M + one v := by
  unfold live
  rw [upd_comp one M i v]
  exact sumTo_upd _ _ _ _ h
theorem load_upd (i : Nat) (v : Option (Hc × Nat)) (h : i < N) : load N (upd M i v) + (rf (M i) + (kd (M i)).length) = load N M + (rf v + (kd v).length) := by
  unfold load
  rw [upd_comp (fun x => rf x + (kd x).length) M i v]
  exact sumTo_upd _ _ _ _ h
theorem count_le_occ {j : Nat} (hj : j < N) (k : Nat) : (kd (M j)).count k ≤ occ N M k := le_sumTo (fun j => (kd (M j)).count k) N hj
theorem live_zero (h : ∀ j, M j = none) : live N M = 0 := sumTo_zero fun j _ => by simp [h j, one]
end

def release (M : Cells) (x : Nat) : Cells × List Nat :=
  match M x with
  | none => (M, [])
  | some (c, r) => if 1 < r then (upd M x (some (c, r - 1)), []) else (upd M x none, c.kids)
inductive Drops : Cells → List Nat → Cells → Prop
  | done (M : Cells) : Drops M [] M
  | step {M M' : Cells} {t : List Nat} {x : Nat} (h : Drops (release M x).1 (t ++ (release M x).2) M') : Drops M (t ++ [x]) M'

def Sub (M' M : Cells) : Prop := ∀ j c r, M' j = some (c, r) → ∃ r0, M j = some (c, r0) ∧ r ≤ r0
theorem Sub.refl (M : Cells) : Sub M M := fun _ _ r h => ⟨r, h, Nat.le_refl _⟩
theorem Sub.trans {A B C : Cells} (h : Sub A B) (k : Sub B C) : Sub A C := fun j c r hj => by
  obtain ⟨r0, h0, l0⟩ := h j c r hj
  obtain ⟨r1, h1, l1⟩ := k j c r0 h0
  exact ⟨r1, h1, Nat.le_trans l0 l1⟩
theorem Sub.none {A B : Cells} (h : Sub A B) {j : Nat} (hj : B j = none) : A j = none := by
  cases e : A j with
  | none => rfl
  | some x => obtain ⟨r0, h0, _⟩ := h j x.1 x.2 e; rw [hj] at h0; cases h0
theorem Sub.kd {A B : Cells} (h : Sub A B) {j k : Nat} (hk : k ∈ kd (A j)) : k ∈ kd (B j) := by
  cases e : A j with
  | none => simp [e, Proofs.YtkkfhbcnfknmaaaGreat.kd] at hk
  | some x =>
    obtain ⟨r0, h0, _⟩ := h j x.1 x.2 e
    rw [h0]
    simpa [e, Proofs.YtkkfhbcnfknmaaaGreat.kd] using hk

structure Ok (N : Nat) (M : Cells) (own : Nat → Nat) (t : List Nat) : Prop where
  zero : M 0 = none
  top : ∀ j, N ≤ j → M j = none
  pos : ∀ j, M j ≠ none → 1 ≤ rf (M j)
  bal : ∀ i, 1 ≤ i → rf (M i) = own i + t.count i + occ N M i
  rank : ∃ rk : Nat → Nat, ∀ j k, k ∈ kd (M j) → k ≠ 0 → rk k < rk j

section
variable {N : Nat} {M : Cells} {own : Nat → Nat} {t : List Nat}
theorem Ok.lt (h : Ok N M own t) {j : Nat} (hj : M j ≠ none) : 1 ≤ j ∧ j < N := by
  refine ⟨?_, ?_⟩
  · rcases Nat.eq_zero_or_pos j with e | e
    · subst e; exact absurd h.zero hj
    · exact e
  · rcases Nat.lt_or_ge j N with e | e
    · exact e
    · exact absurd (h.top j e) hj
theorem held_of_rf {o : Option (Hc × Nat)} (h : 1 ≤ rf o) : o ≠ none := by rintro rfl; simp [rf] at h
theorem Ok.kid (h : Ok N M own t) {j k : Nat} (hk : k ∈ kd (M j)) (h0 : k ≠ 0) : M k ≠ none := by
  have hj : M j ≠ none := by intro e; simp [e, kd] at hk
  have h1 := count_le_occ (M := M) (h.lt hj).2 k
  have h2 := h.bal k (by omega)
  have h3 := List.count_pos_iff.2 hk
  exact held_of_rf (by omega)
theorem Ok.owned (h : Ok N M own t) {i : Nat} (h1 : 1 ≤ i) (ho : 1 ≤ own i) : M i ≠ none := held_of_rf (by have := h.bal i h1; omega)
theorem Ok.next (h : Ok N M own t) {i : Nat} (h1 : 1 ≤ i) (ho : i ∈ t) : M i ≠ none := held_of_rf (by have := h.bal i h1; have := List.count_pos_iff.2 ho; omega)
theorem Ok.free (h : Ok N M own t) {i : Nat} (h1 : 1 ≤ i) (hi : M i = none) : own i = 0 ∧ t.count i = 0 ∧ occ N M i = 0 := by
  have := h.bal i h1; rw [hi] at this; simp only [rf] at this; omega

theorem Ok.perm (h : Ok N M own t) {t' : List Nat} (ht : ∀ i, 1 ≤ i → t'.count i = t.count i) : Ok N M own t' :=
  ⟨h.zero, h.top, h.pos, fun i hi => by rw [ht i hi]; exact h.bal i hi, h.rank⟩

theorem Ok.release (h : Ok N M own t) {x : Nat} {s : List Nat} (ht : ∀ i, t.count i = s.count i + [x].count i) : Ok N (release M x).1 own (s ++ (release M x).2) ∧ Sub (release M x).1 M := by
  unfold Proofs.YtkkfhbcnfknmaaaGreat.release
  cases e : M x with
  | none =>
    refine ⟨h.perm fun i hi => ?_, Sub.refl M⟩
    have := ht i
    rw [List.append_nil]
    by_cases hx : x = i
    · subst hx
      have := (h.free hi e).2.1
      rw [List.count_singleton_self] at *
      omega
    · rw [List.count_singleton, if_neg (by simpa using hx)] at this; omega
  | some y =>
    obtain ⟨c, r⟩ := y
    have hx := h.lt (j := x) (by rw [e]; simp)
    by_cases hr : 1 < r
    · simp only [hr, if_true, List.append_nil]
      refine ⟨⟨?_, ?_, ?_, ?_, ?_⟩, ?_⟩
      · rw [upd_other _ _ (by omega)]; exact h.zero
      · intro j hj; rw [upd_other _ _ (by omega)]; exact h.top j hj
      · intro j hj
        by_cases hjx : j = x
        · subst hjx; rw [upd_same]; simp only [rf]; omega
        · rw [upd_other _ _ hjx] at hj ⊢; exact h.pos j hj
      · intro i hi
        have h1 := h.bal i hi
        have h2 := ht i
        have h3 := occ_upd (M := M) x (some (c, r - 1)) i hx.2
        rw [e] at h3
        simp only [kd] at h3
        by_cases hix : i = x
        · subst hix
          rw [upd_same]
          rw [e] at h1
          rw [List.count_singleton_self] at h2
          simp only [rf] at *
          omega
        · rw [upd_other _ _ hix]
          rw [List.count_singleton, if_neg (by simpa using Ne.symm hix)] at h2
          omega
      · obtain ⟨rk, hrk⟩ := h.rank
        refine ⟨rk, fun j k hk h0 => hrk j k ?_ h0⟩
        by_cases hjx : j = x
        · subst hjx; rw [upd_same] at hk; rw [e]; exact hk
        · rwa [upd_other _ _ hjx] at hk
      · intro j c' r' hj
        by_cases hjx : j = x
        · subst hjx; rw [upd_same] at hj; injection hj with hj; injection hj with h1 h2; subst h1 h2; exact ⟨r, e, by omega⟩
        · rw [upd_other _ _ hjx] at hj; exact ⟨r', hj, Nat.le_refl _⟩
    · simp only [hr, if_false]
      have h1 := h.pos x (by rw [e]; simp)
      have hb := h.bal x hx.1
      have hc := count_le_occ (M := M) hx.2 x
      have htx := ht x
      rw [e] at h1 hb hc
      rw [List.count_singleton_self] at htx
      simp only [rf, kd] at h1 hb hc
      refine ⟨⟨?_, ?_, ?_, ?_, ?_⟩, ?_⟩
      · rw [upd_other _ _ (by omega)]; exact h.zero
      · intro j hj; rw [upd_other _ _ (by omega)]; exact h.top j hj
      · intro j hj
        by_cases hjx : j = x
        · subst hjx; rw [upd_same] at hj; exact absurd rfl hj
        · rw [upd_other _ _ hjx] at hj ⊢; exact h.pos j hj
      · intro i hi
        have h1 := h.bal i hi
        have h2 := ht i
        have h3 := occ_upd (M := M) x none i hx.2
        rw [e] at h3
        rw [List.count_append]
        simp only [kd, List.count_nil] at h3
        by_cases hix : i = x
        · subst hix
          rw [upd_same]
          simp only [rf]
          omega
        · rw [upd_other _ _ hix]
          rw [List.count_singleton, if_neg (by simpa using Ne.symm hix)] at h2
          omega
      · obtain ⟨rk, hrk⟩ := h.rank
        refine ⟨rk, fun j k hk h0 => hrk j k ?_ h0⟩
        by_cases hjx : j = x
        · subst hjx; rw [upd_same] at hk; simp [kd] at hk
        · rwa [upd_other _ _ hjx] at hk
      · intro j c' r' hj
        by_cases hjx : j = x
        · subst hjx; rw [upd_same] at hj; cases hj
        · rw [upd_other _ _ hjx] at hj; exact ⟨r', hj, Nat.le_refl _⟩

theorem Drops.ok {M' : Cells} (hd : Drops M t M') : Ok N M own t → Ok N M' own [] ∧ Sub M' M := by
  induction hd with
  | done M => exact fun h => ⟨h, Sub.refl M⟩
  | step _ ih =>
    intro h
    obtain ⟨h1, s1⟩ := h.release (fun i => List.count_append)
    obtain ⟨h2, s2⟩ := ih h1
    exact ⟨h2, s2.trans s1⟩

theorem release_load {x : Nat} (hx : x < N ∨ M x = none) (hp : M x ≠ none → 1 ≤ rf (M x)) : load N (release M x).1 + (release M x).2.length ≤ load N M := by
  unfold release
  cases e : M x with
  | none => simp
  | some y =>
    obtain ⟨c, r⟩ := y
    have hx' : x < N := by
      rcases hx with h | h
      · exact h
      · rw [e] at h; cases h
    have h1 := hp (by rw [e]; simp)
    rw [e] at h1
    simp only [rf] at h1
    by_cases hr : 1 < r
    · simp only [hr, if_true]
      have := load_upd (M := M) x (some (c, r - 1)) hx'
      rw [e] at this
      simp only [rf, kd, List.length_nil] at *
      omega
    · simp only [hr, if_false]
      have := load_upd (M := M) x none hx'
      rw [e] at this
      simp only [rf, kd, List.length_nil] at *
      omega

theorem Ok.make (h : Ok N M own []) {i : Nat} (hi : 1 ≤ i) (hN : i < N) (hf : M i = .none) (c : Hc) (hk : ∀ k, 1 ≤ k → c.kids.count k ≤ own k) :
    Ok N (upd M i (some (c, 1))) (fun k => own k - c.kids.count k + if k = i then 1 else 0) [] := by
  have hfree := h.free hi hf
  have hci : c.kids.count i = 0 := by have := hk i hi; omega
  refine ⟨?_, ?_, ?_, ?_, ?_⟩
  · rw [upd_other _ _ (by omega)]; exact h.zero
  · intro j hj; rw [upd_other _ _ (by omega)]; exact h.top j hj
  · intro j hj
    by_cases e : j = i
    · subst e; rw [upd_same]; exact Nat.le_refl _
    · rw [upd_other _ _ e] at hj ⊢; exact h.pos j hj
  · intro k h1
    have hb := h.bal k h1
    have ho := occ_upd (M := M) i (some (c, 1)) k hN
    have := hk k h1
    rw [hf] at ho
    simp only [kd, List.count_nil, Nat.add_zero] at *
    by_cases e : k = i
    · subst e; rw [upd_same, if_pos rfl]; simp only [rf]; omega
    · rw [upd_other _ _ e, if_neg e]; omega
  · obtain ⟨rk, hrk⟩ := h.rank
    have hno : ∀ j, i ∉ kd (M j) := fun j hm => h.kid hm (by omega) hf
    refine ⟨upd rk i (sumTo N rk + 1), fun j k hk' h0 => ?_⟩
    by_cases e : j = i
    · subst e
      rw [upd_same] at hk' ⊢
      have hki : k ≠ j := by rintro rfl; exact absurd (List.count_pos_iff.2 hk') (by simp only [kd]; omega)
      rw [upd_other _ _ hki]
      have hkN : k < N := by
        refine (h.lt (j := k) ?_).2
        refine h.owned (by omega) ?_
        have := hk k (by omega)
        have := List.count_pos_iff.2 hk'
        simp only [kd] at this
        omega
      have := le_sumTo rk N hkN
      omega
    · rw [upd_other _ _ e] at hk' ⊢
      rw [upd_other _ _ (by rintro rfl; exact hno j hk')]
      exact hrk j k hk' h0

theorem Ok.keep (h : Ok N M own []) {i : Nat} {c : Hc} {r : Nat} (hi : M i = some (c, r)) : Ok N (upd M i (some (c, r + 1))) (fun k => own k + if k = i then 1 else 0) [] := by
  have hl := h.lt (j := i) (by rw [hi]; simp)
  refine ⟨?_, ?_, ?_, ?_, ?_⟩
  · rw [upd_other _ _ (by omega)]; exact h.zero
  · intro j hj; rw [upd_other _ _ (by omega)]; exact h.top j hj
  · intro j hj
    by_cases e : j = i
    · subst e; rw [upd_same]; simp [rf]
    · rw [upd_other _ _ e] at hj ⊢; exact h.pos j hj
  · intro k h1
    have hb := h.bal k h1
    have ho := occ_upd (M := M) i (some (c, r + 1)) k hl.2
    rw [hi] at ho
    simp only [kd, List.count_nil, Nat.add_zero] at *
    by_cases e : k = i
    · subst e; rw [upd_same, if_pos rfl]; rw [hi] at hb; simp only [rf] at *; omega
    · rw [upd_other _ _ e, if_neg e]; omega
  · obtain ⟨rk, hrk⟩ := h.rank
    refine ⟨rk, fun j k hk h0 => hrk j k ?_ h0⟩
    by_cases e : j = i
    · subst e; rw [upd_same] at hk; rw [hi]; exact hk
    · rwa [upd_other _ _ e] at hk

theorem Ok.edit (h : Ok N M own []) {i : Nat} {c0 c : Hc} (hi : M i = some (c0, 1)) (ho : 1 ≤ own i) (hk : ∀ k, 1 ≤ k → c.kids.count k ≤ own k) (hn : i ∉ c.kids) :
    Ok N (upd M i (some (c, 1))) (fun k => own k - c.kids.count k + c0.kids.count k) [] := by
  have hl := h.lt (j := i) (by rw [hi]; simp)
  have hbi := h.bal i hl.1
  rw [hi] at hbi
  simp only [rf, List.count_nil] at hbi
  have hno : ∀ j, i ∉ kd (M j) := fun j hm => by
    have hj : M j ≠ .none := by intro e; simp [e, kd] at hm
    have := count_le_occ (M := M) (h.lt hj).2 i
    have := List.count_pos_iff.2 hm
    omega
  refine ⟨?_, ?_, ?_, ?_, ?_⟩
  · rw [upd_other _ _ (by omega)]; exact h.zero
  · intro j hj; rw [upd_other _ _ (by omega)]; exact h.top j hj
  · intro j hj
    by_cases e : j = i
    · subst e; rw [upd_same]; exact Nat.le_refl _
    · rw [upd_other _ _ e] at hj ⊢; exact h.pos j hj
  · intro k h1
    have hb := h.bal k h1
    have hoc := occ_upd (M := M) i (some (c, 1)) k hl.2
    have := hk k h1
    have hle := count_le_occ (M := M) hl.2 k
    rw [hi] at hoc hle
    simp only [kd, List.count_nil, Nat.add_zero] at *
    by_cases e : k = i
    · subst e
      rw [upd_same]
      have h1 : c.kids.count k = 0 := List.count_eq_zero.2 hn
      have h2 : c0.kids.count k = 0 := by omega
      simp only [rf]
      omega
    · rw [upd_other _ _ e]; omega
  · obtain ⟨rk, hrk⟩ := h.rank
    refine ⟨upd rk i (sumTo N rk + 1), fun j k hk' h0 => ?_⟩
    by_cases e : j = i
    · subst e
      rw [upd_same] at hk' ⊢
      have hki : k ≠ j := by rintro rfl; exact hn hk'
      rw [upd_other _ _ hki]
      have hkN : k < N := by
        refine (h.lt (j := k) ?_).2
        refine h.owned (by omega) ?_
        have := hk k (by omega)
        have := List.count_pos_iff.2 hk'
        simp only [kd] at this
        omega
      have := le_sumTo rk N hkN
      omega
    · rw [upd_other _ _ e] at hk' ⊢
      rw [upd_other _ _ (by rintro rfl; exact hno j hk')]
      exact hrk j k hk' h0

theorem Ok.give (h : Ok N M own []) {i : Nat} (ho : 1 ≤ own i) : Ok N M (fun k => own k - if k = i then 1 else 0) [i] := by
  refine ⟨h.zero, h.top, h.pos, fun k hk => ?_, h.rank⟩
  have := h.bal k hk
  by_cases e : k = i
  · subst e; rw [if_pos rfl, List.count_singleton_self]; simp only [List.count_nil] at this; omega
  · rw [if_neg e, List.count_singleton, if_neg (by simpa using Ne.symm e)]; simp only [List.count_nil] at this; omega
end

end Go.Proofs.YtkkfhbcnfknmaaaGreat

namespace Go.Proofs.YtkkfhbcnfknmaaaGreat
open Go.RowKit

theorem vinfo : (Tryz.prog.info? 36).map (fun i => (i.zero, i.size, i.bytes)) = some (some (.agg #[.int .u8 0, .int .i64 0, .string ⟨#[]⟩]), 3, 32) := by kernel_rfl
theorem iinfo : (Tryz.prog.info? 3).map (fun i => (i.zero, i.size, i.bytes)) = some (some (.int .i64 0), 1, 8) := by kernel_rfl
theorem hinfo : (Tryz.prog.info? 136).map (fun i => (i.zero, i.size, i.bytes)) = some (some (.pointer none), 1, 8) := by kernel_rfl

def nums (l : List Int) : List Value := l.map fun x => Value.int .i64 x
theorem nums_length (l : List Int) : (nums l).length = l.length := by simp [nums]
theorem nums_at (l : List Int) (j : Nat) : (nums l)[j]? = l[j]?.map fun x => Value.int .i64 x := by simp [nums]
theorem nums_one (l : List Int) : ∀ u ∈ nums l, u.oneCell' = true := by
  intro u hu
  obtain ⟨b, _, rfl⟩ := List.mem_map.1 hu
  rfl
theorem flat_one (l : List V3) : ∀ u ∈ l.flatMap cells3, u.oneCell' = true := by
  intro u hu
  obtain ⟨x, _, hx⟩ := List.mem_flatMap.1 hu
  simp [cells3] at hx
  rcases hx with rfl | rfl | rfl <;> rfl

abbrev cagg (o a b : Int) (v k : Value) : Value := .agg #[.int .u32 o, .int .u32 a, .int .u32 b, v, k]

def Apart (o a b : Int) (vs : List V3) (ks : List Int) (w : World) (e : Ending) (w' : World) : Prop :=
  ∃ v k, e = .returned (cagg o a b v k) ∧ w'.ownsRow w.heap.size 36 3 v vs.length (vs.flatMap cells3) ∧ w'.ownsRow w.heap.size 3 1 k ks.length (nums ks) ∧ Below w.heap.size w w'

set_option maxHeartbeats 1600000 in
theorem apart (o a b : Int) (v k : Value) (vs : List V3) (ks : List Int) (w : World) (hv : Rd w v vs.length (vs.flatMap cells3)) (hk : Rd w k ks.length (nums ks)) (nv : vs.length ≤ 4194304) (nk : ks.length ≤ 4194304) :
    Calls Tryz.prog 88 #[cagg o a b v k] w (Apart o a b vs ks w) := by
  obtain ⟨i0, hi, hz0, hz1, hz2⟩ := info_parts vinfo
  obtain ⟨i1, hi1, hy0, hy1, hy2⟩ := info_parts iinfo
  obtain ⟨A, cv, rfl, _⟩ := hv.form
  obtain ⟨A', ck, rfl, _⟩ := hk.form
  have HV := Lib.hid hv
  have HK := Lib.hid hk
  clear hv hk
  go_enter Tryz.func88, Tryz.ntmps88
  go_wp2_with (at_builtin; refine wpList_append_rd rfl _ _ 50 rfl w.heap.size 36 i0 _ 3 32 Tryz.underlying50 hi hz0 hz1 hz2 rfl (by decide) _ 0 [] rfl (World.ownsRow_nil _ _ _ _) _ vs.length (vs.flatMap cells3) rfl ((HV.out.alloc _).alloc _) (flat_len vs) (flat_one vs) ?c1 ?c2 ?c3 ?_)
  case c1 => unfold maxLen; omega
  case c2 => omega
  case c3 => simp; omega
  intro v1 w1 hown1 hg1 _
  obtain ⟨X1, m1, rfl, _⟩ := (Rd.of_own hown1).form
  have r1 := ((C5.new w 94 (.int .u32 o) (.int .u32 a) (.int .u32 b) (.slice A vs.length cv) (.slice A' ks.length ck)).alloc _).grown hg1 (by simp [Value.ownBlock])
  have q1 := (C5.new (w.alloc _) 94 (.int .u32 0) (.int .u32 0) (.int .u32 0) (.slice none 0 0) (.slice none 0 0)).grown hg1 (by simp [Value.ownBlock])
  rw [show (w.alloc (.cells #[.int .u32 o, .int .u32 a, .int .u32 b, .slice A vs.length cv, .slice A' ks.length ck] 94)).heap.size = w.heap.size + 1 by simp] at q1
  have hb1 : Below w.heap.size w w1 := (((Below.refl _ w).alloc (Nat.le_refl _) _).alloc (by simp) _).grown hg1 (by simp; omega) (by simp [Value.ownBlock])
  have O1 := Lib.hid hown1
  have B1 := Lib.hid hb1
  have hs1 : w.heap.size + 1 < w1.heap.size := q1.lt
  clear hg1 hown1 hb1
  obtain ⟨c0, c1, c2, c3, c4, f0, f1, f2, f3, f4⟩ := r1.all
  have R1 := Lib.hid r1
  have Q1 := Lib.hid q1
  clear r1 q1
  go_wp2_with (at_builtin; refine wpList_append_rd rfl _ _ 92 rfl w.heap.size 3 i1 _ 1 8 Tryz.underlying92 hi1 hy0 hy1 hy2 rfl (by decide) _ 0 [] rfl (World.ownsRow_nil _ _ _ _) _ ks.length (nums ks) rfl ?k0 ?k1 (nums_one ks) ?k2 ?k3 ?k4 ?_)
  case k0 => exact HK.out.below (B1.out.setCell (Nat.le_refl _) _)
  case k1 => rw [nums_length]; omega
  case k2 => unfold maxLen; omega
  case k3 => omega
  case k4 => simp; omega
  intro v2 w2 hown2 hg2 hat2
  obtain ⟨X2, m2, rfl, _⟩ := (Rd.of_own hown2).form
  have r2 := (R1.out.set3 (.slice X1 vs.length m1)).grown hg2 (by simp [Value.ownBlock])
  have q2 := (Q1.out.other (g := w.heap.size) (o := 3) (by omega) (.slice X1 vs.length m1)).grown hg2 (by simp [Value.ownBlock])
  have hb2 : Below w.heap.size w w2 := (B1.out.setCell (p := ⟨w.heap.size, 3, none⟩) (Nat.le_refl _) _).grown hg2 (by simp; omega) (by simp [Value.ownBlock])
  have hv2 : w2.ownsRow w.heap.size 36 3 (.slice X1 vs.length m1) vs.length (vs.flatMap cells3) := by
    have hne := own_ne O1.out R1.out (by decide)
    exact (Kp.of_grown (F := fun _ => False) hg2 (by simp [Value.ownBlock])).own ((Kp.setCell (Kp.refl (fun k => k = w.heap.size) _) (.inl rfl) _).own O1.out hne) (fun _ _ => id)
  have hs2 : w.heap.size + 1 < w2.heap.size := q2.lt
  clear c0 c1 c2 c3 c4 f0 f1 f2 f3 f4 hg2 R1 Q1 B1
  have HB := Lib.hid hb2
  have HO := Lib.hid hown2
  have HW := Lib.hid hv2
  clear hb2 hown2 hv2 hat2
  obtain ⟨c0, c1, c2, c3, c4, f0, f1, f2, f3, f4⟩ := r2.all
  obtain ⟨d0, d1, d2, d3, d4, g0, g1, g2, g3, g4⟩ := q2.all
  have n1 := own_ne HW.out r2 (by decide)
  have n2 := own_ne HW.out q2 (by decide)
  have n3 := own_ne HO.out r2 (by decide)
  have n4 := own_ne HO.out q2 (by decide)
  have NE := Lib.hid (show (∀ k, (Value.slice X1 vs.length m1).ownBlock = some k → ¬ (k = w.heap.size ∨ k = w.heap.size + 1)) ∧ (∀ k, (Value.slice X2 ks.length m2).ownBlock = some k → ¬ (k = w.heap.size ∨ k = w.heap.size + 1)) from
    ⟨fun k hk => not_or.2 ⟨n1 k hk, n2 k hk⟩, fun k hk => not_or.2 ⟨n3 k hk, n4 k hk⟩⟩)
  clear r2 q2 n1 n2 n3 n4
  go_wp2_with fail
  refine bodyPost_ret (v := cagg o a b (.slice X1 vs.length m1) (.slice X2 ks.length m2)) (by simp [results, Tryz.results88, go_sem, d0, d1, d2, d3, d4]) rfl ⟨_, _, rfl, ?_, ?_, ?_⟩
  · exact (((((((Kp.refl (fun k => k = w.heap.size ∨ k = w.heap.size + 1) w2).setCell (.inl (.inl rfl)) _).setCell (.inl (.inr rfl)) _).setCell (.inl (.inr rfl)) _).setCell (.inl (.inr rfl)) _).setCell (.inl (.inr rfl)) _).setCell (.inl (.inr rfl)) _).own HW.out NE.out.1
  · exact (((((((Kp.refl (fun k => k = w.heap.size ∨ k = w.heap.size + 1) w2).setCell (.inl (.inl rfl)) _).setCell (.inl (.inr rfl)) _).setCell (.inl (.inr rfl)) _).setCell (.inl (.inr rfl)) _).setCell (.inl (.inr rfl)) _).setCell (.inl (.inr rfl)) _).own HO.out NE.out.2
  · exact (((((HB.out.setCell (Nat.le_refl _) _).setCell (Nat.le_succ _) _).setCell (Nat.le_succ _) _).setCell (Nat.le_succ _) _).setCell (Nat.le_succ _) _).setCell (Nat.le_succ _) _

end Go.Proofs.YtkkfhbcnfknmaaaGreat

namespace Go.Proofs.YtkkfhbcnfknmaaaGreat
set_option maxRecDepth 100000
open Go.RowKit

abbrev ap (b : Nat) : Value := .pointer (some ⟨b, 0, none⟩)
def ptrOf : Option (Hc × Nat) → Nat → Value
  | none, _ => .pointer none
  | some _, h => .pointer (some ⟨h, 0, none⟩)
def places (M : Cells) (H : Nat → Nat) (n : Nat) : List Value := (List.range n).map fun j => ptrOf (M (j + 1)) (H (j + 1))
def ns (l : List Nat) : List Int := l.map fun (x : Nat) => (x : Int)

def Cel (w : World) (F : Nat → Prop) (vf : Value) (h : Nat) (c : Hc) (r : Nat) : Prop :=
  ∃ v k, C6 w h 172 (.int .u32 c.owner) (.int .u32 c.a) (.int .u32 c.b) v k (.int .i64 r) ∧ w.ownsRow 0 36 3 v c.vals.length (c.vals.flatMap cells3) ∧
    w.ownsRow 0 3 1 k c.kids.length (nums (ns c.kids)) ∧ F h ∧ (∀ g, v.ownBlock = some g → F g) ∧ (∀ g, k.ownBlock = some g → F g ∧ vf.ownBlock ≠ some g) ∧ c.vals.length ≤ 4194304 ∧ c.kids.length ≤ 4194304

structure ArD (d : Nat) (w : World) (b most : Nat) (M : Cells) (F : Nat → Prop) (n : Nat) (vc vf : Value) (fr : List Nat) (H : Nat → Nat) : Prop where
  m1 : 1 ≤ most
  m2 : most ≤ 1048576
  row : C4 w b 152 (.int .i64 most) (.int .i64 (live (most + 1) M)) vc vf
  cs : w.ownsRow 0 136 1 vc n (places M H n)
  fs : w.ownsRow 0 3 1 vf fr.length (nums (ns fr))
  cel : ∀ j c r, M j = some (c, r) → 1 ≤ j ∧ j ≤ n ∧ 1 ≤ r ∧ Cel w F vf (H j) c r
  inj : ∀ j k, M j ≠ none → M k ≠ none → H j = H k → j = k
  nd : fr.Nodup
  fi : ∀ i ∈ fr, 1 ≤ i ∧ i ≤ n ∧ M i = none
  len : n = live (most + 1) M + fr.length + d
  le : n ≤ most
  fb : F b
  fc : ∀ k, vc.ownBlock = some k → F k
  ff : ∀ k, vf.ownBlock = some k → F k
  lt : ∀ k, F k → k < w.heap.size
def Ar (w : World) (b most : Nat) (M : Cells) (F : Nat → Prop) : Prop := ∃ n vc vf fr H, ArD 0 w b most M F n vc vf fr H

section
variable {d : Nat} {w w' : World} {b most : Nat} {M : Cells} {F G : Nat → Prop} {n : Nat} {vc vf : Value} {fr : List Nat} {H : Nat → Nat}
theorem places_length (M : Cells) (H : Nat → Nat) (n : Nat) : (places M H n).length = n := by simp [places]
theorem places_at {j : Nat} (hj : j < n) : (places M H n)[j]? = some (ptrOf (M (j + 1)) (H (j + 1))) := by simp [places, hj]
theorem Cel.kp {h : Nat} {c : Hc} {r : Nat} (hc : Cel w F vf h c r) (hk : Kp G w w') (hG : ∀ k, F k → ¬ G k) : Cel w' F vf h c r := by
  obtain ⟨v, k, h1, h2, h3, h4, h5, h6, h7, h8⟩ := hc
  exact ⟨v, k, h1.kp hk (hG _ h4), hk.own h2 (fun g hg => hG _ (h5 g hg)), hk.own h3 (fun g hg => hG _ (h6 g hg).1), h4, h5, h6, h7, h8⟩
theorem ArD.kp (h : ArD d w b most M F n vc vf fr H) (hk : Kp G w w') (hG : ∀ k, F k → ¬ G k) : ArD d w' b most M F n vc vf fr H where
  m1 := h.m1
  m2 := h.m2
  row := h.row.kp hk (hG _ h.fb)
  cs := hk.own h.cs (fun g hg => hG _ (h.fc g hg))
  fs := hk.own h.fs (fun g hg => hG _ (h.ff g hg))
  cel := fun j c r hj => by
    obtain ⟨h1, h2, h3, h4⟩ := h.cel j c r hj
    exact ⟨h1, h2, h3, h4.kp hk hG⟩
  inj := h.inj
  nd := h.nd
  fi := h.fi
  len := h.len
  le := h.le
  fb := h.fb
  fc := h.fc
  ff := h.ff
  lt := fun k hk' => Nat.lt_of_lt_of_le (h.lt k hk') hk.size
theorem Ar.kp (h : Ar w b most M F) (hk : Kp G w w') (hG : ∀ k, F k → ¬ G k) : Ar w' b most M F := by
  obtain ⟨n, vc, vf, fr, H, h⟩ := h
  exact ⟨n, vc, vf, fr, H, h.kp hk hG⟩
theorem Ar.below (h : Ar w b most M F) (hb : Below w.heap.size w w') : Ar w' b most M F := h.kp (Kp.of_below hb (fun _ => False)) (fun _ _ => id)
theorem Ar.alloc (h : Ar w b most M F) (o : Obj) : Ar (w.alloc o) b most M F := h.below ((Below.refl _ _).alloc (Nat.le_refl _) o)
theorem Ar.drew (h : Ar w b most M F) : Ar w.drew b most M F := h.below (Below.refl _ _).drew
theorem Ar.drewN (h : Ar w b most M F) (k : Nat) : Ar (w.drewN k) b most M F := h.below ⟨rfl, rfl, rfl, Nat.le_refl _, fun _ _ => rfl⟩
theorem Ar.blt (h : Ar w b most M F) : b < w.heap.size := by obtain ⟨n, vc, vf, fr, H, h⟩ := h; exact h.row.lt
theorem Ar.lt (h : Ar w b most M F) {k : Nat} (hk : F k) : k < w.heap.size := by obtain ⟨n, vc, vf, fr, H, h⟩ := h; exact h.lt k hk
theorem ArD.zero (h : ArD d w b most M F n vc vf fr H) : M 0 = none := by
  cases e : M 0 with
  | none => rfl
  | some x => have := (h.cel 0 x.1 x.2 e).1; omega
theorem ArD.top (h : ArD d w b most M F n vc vf fr H) {j : Nat} (hj : n < j) : M j = none := by
  cases e : M j with
  | none => rfl
  | some x => have := (h.cel j x.1 x.2 e).2.1; omega
theorem ArD.held (h : ArD d w b most M F n vc vf fr H) {j : Nat} (hj : M j ≠ none) : 1 ≤ j ∧ j ≤ n := by
  cases e : M j with
  | none => exact absurd e hj
  | some x => have := h.cel j x.1 x.2 e; exact ⟨this.1, this.2.1⟩
theorem live_le (N : Nat) (M : Cells) : live N M ≤ N := by
  have := sumTo_le (f := fun j => one (M j)) 1 N (fun j _ => by cases M j <;> simp [one])
  unfold live; omega
theorem ArD.live_le (h : ArD d w b most M F n vc vf fr H) : live (most + 1) M ≤ most := by have := h.len; have := h.le; omega
end

theorem quiet_same {P : Program} {f : FuncId} {args : Array Value} {w : World} {n : Nat} {v : Value}
    (h : Calls P f args (w.drewN n) fun e w' => e = .returned v ∧ w.drewN n = w') : Calls P f args (w.drewN n) fun e w'' => e = .returned v ∧ ∃ m, w'' = w.drewN m :=
  h.mono fun _ _ ⟨he, hm⟩ => ⟨he, n, hm.symm⟩

theorem anew (most : Nat) (w : World) (h1 : 1 ≤ most) (h2 : most ≤ 1048576) : Calls Tryz.prog 59 #[.int .i64 most] w fun e w' =>
    e = .returned (.tuple #[ap w.heap.size, .int .i64 0]) ∧ Ar w' w.heap.size most (fun _ => none) (fun k => k = w.heap.size) ∧ Below w.heap.size w w' := by
  have h1' : ¬ (most : Int) < 1 := by omega
  go_enter Tryz.func59, Tryz.ntmps59
  go_wp2
  go_ret2
  refine ⟨rfl, ⟨0, .slice none 0 0, .slice none 0 0, [], fun _ => 0, ?_⟩, (Below.refl _ _).alloc (Nat.le_refl _) _⟩
  have hl : live (most + 1) (fun _ => none) = 0 := live_zero fun _ => rfl
  refine ⟨h1, h2, ?_, World.ownsRow_nil _ _ _ _, World.ownsRow_nil _ _ _ _, fun j c r h => (by cases h), fun j k h => absurd rfl h, List.nodup_nil, (by simp), (by simp [hl]), Nat.zero_le _, rfl, (by simp [Value.ownBlock]), (by simp [Value.ownBlock]), (by simp)⟩
  rw [hl]
  exact C4.new w _ _ _ _ _
theorem alive (b most : Nat) (M : Cells) (F : Nat → Prop) (w : World) (h : Ar w b most M F) : Calls Tryz.prog 40 #[ap b] w fun e w' => e = .returned (.int .i64 (live (most + 1) M)) ∧ w = w' := by
  obtain ⟨n, vc, vf, fr, H, h⟩ := h
  have hl := run_call_load (P := Tryz.prog) Tryz.func126 (by kernel_rfl) (by kernel_rfl) (by kernel_rfl) .i64 (by kernel_rfl) h.row.c1
  have hle := h.live_le
  have h2 := h.m2
  clear h
  go_enter Tryz.func40, Tryz.ntmps40
  go_wp2_with (go_at_call 80; go_in)
  go_ret
  exact ⟨rfl, rfl⟩
set_option maxHeartbeats 1600000 in
theorem aroom (b most : Nat) (M : Cells) (F : Nat → Prop) (w : World) (h : Ar w b most M F) : Calls Tryz.prog 42 #[ap b] w fun e w' => e = .returned (.int .i64 ((most : Int) - live (most + 1) M)) ∧ ∃ k, w' = w.drewN k := by
  have h' := h
  obtain ⟨n, vc, vf, fr, H, hi⟩ := h'
  have c0 := hi.row.c0
  have hle := hi.live_le
  have h2 := hi.m2
  clear hi
  have hm1 : (most : Int) ≤ 1048576 := by omega
  have hm2 : ((live (most + 1) M : Nat) : Int) ≤ 1048576 := by omega
  go_enter Tryz.func42, Tryz.ntmps42
  go_wp2_with fail
  go_quiet ((go_at_call 40; exact quiet_same (alive b most M F _ (h.drewN _))))
  go_wp2_with fail
  go_ret
  exact ⟨rfl, _, rfl⟩
def fptr (M : Cells) (H : Nat → Nat) (i : Int) : Value := if 1 ≤ i then ptrOf (M i.toNat) (H i.toNat) else .pointer none
theorem fptr_nat (M : Cells) (H : Nat → Nat) (k : Nat) (hk : 1 ≤ k) : fptr M H k = ptrOf (M k) (H k) := by unfold fptr; rw [if_pos (by omega)]; simp
theorem fptr_none (M : Cells) (H : Nat → Nat) {i : Int} (h : 1 ≤ i → M i.toNat = none) : fptr M H i = .pointer none := by
  unfold fptr
  split
  · rename_i hi; rw [h hi]; rfl
  · rfl
theorem fptr_some (M : Cells) (H : Nat → Nat) {k : Nat} {x : Hc × Nat} (hk : 1 ≤ k) (h : M k = some x) : fptr M H k = ap (H k) := by rw [fptr_nat M H k hk, h]; rfl

section
variable {d : Nat} {b most : Nat} {M : Cells} {F : Nat → Prop} {n : Nat} {vc vf : Value} {fr : List Nat} {H : Nat → Nat}
set_option maxHeartbeats 1600000 in
theorem find (i : Int) (w : World) (h : ArD d w b most M F n vc vf fr H) : Calls Tryz.prog 72 #[ap b, .int .i64 i] w fun e w' => e = .returned (fptr M H i) ∧ w = w' := by
  obtain ⟨A, c, rfl, hc⟩ := (Rd.of_own h.cs).form
  have c2 := h.row.c2
  have hn : n ≤ 1048576 := by have := h.le; have := h.m2; omega
  by_cases h1 : i < 1
  · rw [fptr_none M H (fun h => by omega)]
    clear h
    go_enter Tryz.func72, Tryz.ntmps72
    go_wp2_with fail
    go_ret
    exact ⟨rfl, rfl⟩
  · obtain ⟨k, rfl⟩ : ∃ k : Nat, i = k := ⟨i.toNat, by omega⟩
    by_cases h2 : n < k
    · rw [fptr_none M H (fun _ => by simpa using h.top h2)]
      clear h
      go_enter Tryz.func72, Tryz.ntmps72
      go_wp2_with fail
      go_ret
      exact ⟨rfl, rfl⟩
    · obtain ⟨j, rfl⟩ : ∃ j, k = j + 1 := ⟨k - 1, by omega⟩
      obtain ⟨g, c', e, _, hx, _⟩ := own_at h.cs (places_at (M := M) (H := H) (n := n) (j := j) (by omega))
      simp only [Value.slice.injEq, true_and] at e
      obtain ⟨rfl, rfl⟩ := e
      have HF := Lib.hid (fptr_nat M H (j + 1) (by omega))
      clear h
      have hj : ((j + 1 : Nat) : Int) - 1 = j := by omega
      go_enter Tryz.func72, Tryz.ntmps72
      go_wp2_with fail
      go_ret
      exact ⟨congrArg Ending.returned HF.out.symm, rfl⟩
def goodB (M : Cells) (x : Int) : Bool := x == 0 || (decide (1 ≤ x) && (M x.toNat).isSome)
theorem good_fptr {x : Int} (h0 : x ≠ 0) (hg : goodB M x = true) : fptr M H x = ap (H x.toNat) := by
  unfold goodB at hg
  simp only [Bool.or_eq_true, beq_iff_eq, h0, false_or, Bool.and_eq_true, decide_eq_true_eq] at hg
  obtain ⟨k, rfl⟩ : ∃ k : Nat, x = k := ⟨x.toNat, by omega⟩
  obtain ⟨y, hy⟩ := Option.isSome_iff_exists.1 hg.2
  exact fptr_some M H (by omega) hy
theorem bad_fptr {x : Int} (hg : goodB M x = false) : fptr M H x = .pointer none := by
  unfold goodB at hg
  simp only [Bool.or_eq_false_iff, beq_eq_false_iff_ne, Bool.and_eq_false_iff, decide_eq_false_iff_not] at hg
  refine fptr_none M H fun h1 => ?_
  rcases hg.2 with h | h
  · exact absurd h1 h
  · exact Option.isSome_eq_false_iff.1 h |> Option.isNone_iff_eq_none.1

set_option maxHeartbeats 1600000 in
theorem allHeld (v : Value) (ks : List Int) (w : World) (h : ArD d w b most M F n vc vf fr H) (hv : Rd w v ks.length (nums ks)) (hl : ks.length ≤ 4194304) :
    Calls Tryz.prog 86 #[ap b, v] w fun e w' => e = .returned (.bool (ks.all (goodB M))) ∧ w = w' := by
  obtain ⟨A, c, rfl, hc⟩ := hv.form
  go_enter Tryz.func86, Tryz.ntmps86
  go_wp2_with fail
  go_loop [9] (fun i => ∃ j : Nat, j ≤ ks.length ∧ i = .int .i64 j ∧ (ks.take j).all (goodB M) = true) (fun i => ks.length - (intOf i).toNat)
  case atStart => exact ⟨0, Nat.zero_le _, rfl, rfl⟩
  case round =>
    obtain ⟨j, hj, rfl, hall⟩ := hrel
    have HA := Lib.hid hall
    clear hall
    by_cases h1 : j < ks.length
    · obtain ⟨x, hx⟩ : ∃ x, ks[j]? = some x := ⟨_, List.getElem?_eq_getElem h1⟩
      obtain ⟨g, o, c', e, _, hcell⟩ := hv.at (j := j) (by rw [nums_at, hx]; rfl)
      injection e with e1 e2 e3
      subst e1 e3
      have HX := Lib.hid hx
      clear hx
      have hstep : (ks.take (j + 1)).all (goodB M) = goodB M x := by
        rw [List.take_add_one, HX.out, List.all_append, HA.out]; simp
      have HS := Lib.hid hstep
      clear hstep
      by_cases h0 : x = 0
      · subst h0
        go_wp2_with fail
        go_round
        case rel => exact ⟨j + 1, by omega, by go_num, by rw [HS.out]; rfl⟩
        case measure => simp [intOf]; omega
      · cases hg : goodB M x
        · have hf := bad_fptr (H := H) hg
          have hall : ks.all (goodB M) = false := by
            rw [List.all_eq_false]
            exact ⟨x, List.mem_of_getElem? HX.out, by simp [hg]⟩
          have HL := Lib.hid hall
          clear hall
          go_wp2_with (go_at_call 72; refine (find _ _ h).mono ?_; rintro e w' ⟨rfl, rfl⟩; rw [hf])
          go_ret
          exact ⟨ret_bool HL.out.symm, rfl⟩
        · have hf := good_fptr (H := H) h0 hg
          go_wp2_with (go_at_call 72; refine (find _ _ h).mono ?_; rintro e w' ⟨rfl, rfl⟩; rw [hf])
          go_round
          case rel => exact ⟨j + 1, by omega, by go_num, by rw [HS.out]; exact hg⟩
          case measure => simp [intOf]; omega
    · obtain rfl : j = ks.length := by omega
      rw [List.take_length] at HA
      go_wp2_with fail
      go_ret
      exact ⟨ret_bool HA.out.symm, rfl⟩
end

def rfi (M : Cells) (i : Int) : Nat := if 1 ≤ i then rf (M i.toNat) else 0
theorem arefs (i : Int) (b most : Nat) (M : Cells) (F : Nat → Prop) (w : World) (h : Ar w b most M F) : Calls Tryz.prog 145 #[ap b, .int .i64 i] w fun e w' => e = .returned (.int .i64 (rfi M i)) ∧ w = w' := by
  obtain ⟨n, vc, vf, fr, H, h⟩ := h
  by_cases hs : 1 ≤ i ∧ M i.toNat ≠ none
  · obtain ⟨k, rfl⟩ : ∃ k : Nat, i = k := ⟨i.toNat, by omega⟩
    obtain ⟨x, hx⟩ := Option.ne_none_iff_exists'.1 hs.2
    simp only [Int.toNat_natCast] at hx
    obtain ⟨_, _, _, v, q, r6, _⟩ := h.cel k x.1 x.2 hx
    have hf := fptr_some M H (by omega) hx
    have c5 := r6.c5
    have he : rfi M k = x.2 := by unfold rfi; rw [if_pos (by omega), Int.toNat_natCast, hx]; rfl
    rw [he]
    clear r6
    go_enter Tryz.func145, Tryz.ntmps145
    go_wp2_with (go_at_call 72; refine (find _ _ h).mono ?_; rintro e w' ⟨rfl, rfl⟩; rw [hf])
    go_ret
    exact ⟨rfl, rfl⟩
  · have hn : 1 ≤ i → M i.toNat = none := fun h1 => Classical.byContradiction fun hne => hs ⟨h1, hne⟩
    have hf := fptr_none M H hn
    have he : rfi M i = 0 := by
      unfold rfi
      split
      · rename_i h1; rw [hn h1]; rfl
      · rfl
    rw [he]
    go_enter Tryz.func145, Tryz.ntmps145
    go_wp2_with (go_at_call 72; refine (find _ _ h).mono ?_; rintro e w' ⟨rfl, rfl⟩; rw [hf])
    go_ret
    exact ⟨rfl, rfl⟩
end Go.Proofs.YtkkfhbcnfknmaaaGreat

namespace Go.Proofs.YtkkfhbcnfknmaaaGreat
set_option maxRecDepth 100000
open Go.RowKit

def Got (c : Hc) (w : World) (e : Ending) (w' : World) : Prop :=
  ∃ v k, e = .returned (.tuple #[cagg c.owner c.a c.b v k, .bool true]) ∧ w'.ownsRow w.heap.size 36 3 v c.vals.length (c.vals.flatMap cells3) ∧ w'.ownsRow w.heap.size 3 1 k c.kids.length (nums (ns c.kids)) ∧ Below w.heap.size w w'
theorem ns_length (l : List Nat) : (ns l).length = l.length := by simp [ns]

set_option maxRecDepth 100000 in
set_option maxHeartbeats 800000 in
theorem get_no (i : Int) (b most : Nat) (M : Cells) (F : Nat → Prop) (w : World) (h : Ar w b most M F) (hn : 1 ≤ i → M i.toNat = none) :
    Calls Tryz.prog 118 #[ap b, .int .i64 i] w fun e w' => e = .returned (.tuple #[cagg 0 0 0 (.slice none 0 0) (.slice none 0 0), .bool false]) ∧ Below w.heap.size w w' := by
  have h' := h.alloc (.cells #[.int .u32 0, .int .u32 0, .int .u32 0, .slice none 0 0, .slice none 0 0] 94)
  obtain ⟨n, vc, vf, fr, H, h⟩ := h'
  have hf := fptr_none M H hn
  go_enter Tryz.func118, Tryz.ntmps118
  go_wp2_with (go_at_call 72; refine (find _ _ h).mono ?_; rintro e w1 ⟨rfl, hw⟩; rw [hf]; have q1 : C5 w1 w.heap.size 94 (.int .u32 0) (.int .u32 0) (.int .u32 0) (.slice none 0 0) (.slice none 0 0) := hw ▸ C5.new w _ _ _ _ _ _; have B1 := Lib.hid (show Below w.heap.size w w1 from hw ▸ (Below.refl _ w).alloc (Nat.le_refl _) _); clear hw; obtain ⟨d0, d1, d2, d3, d4, g0, g1, g2, g3, g4⟩ := q1.all; clear q1)
  refine bodyPost_ret (v := .tuple #[cagg 0 0 0 (.slice none 0 0) (.slice none 0 0), .bool false]) (by simp [results, Tryz.results118, go_sem, d0, d1, d2, d3, d4]) rfl ⟨rfl, ?_⟩
  exact ((((B1.out.setCell (Nat.le_refl _) _).setCell (Nat.le_refl _) _).setCell (Nat.le_refl _) _).setCell (Nat.le_refl _) _).setCell (Nat.le_refl _) _
set_option maxRecDepth 100000 in
set_option maxHeartbeats 1600000 in
theorem get (i : Nat) (c : Hc) (r : Nat) (b most : Nat) (M : Cells) (F : Nat → Prop) (w : World) (h : Ar w b most M F) (hi : M i = some (c, r)) :
    Calls Tryz.prog 118 #[ap b, .int .i64 i] w (Got c w) := by
  have h' := h.alloc (.cells #[.int .u32 0, .int .u32 0, .int .u32 0, .slice none 0 0, .slice none 0 0] 94)
  obtain ⟨n, vc, vf, fr, H, h⟩ := h'
  obtain ⟨h1, _, _, v, k, r6, hv, hk, _, _, _, nv, nk⟩ := h.cel i c r hi
  have hf := fptr_some M H h1 hi
  obtain ⟨A, cv, rfl, _⟩ := (Rd.of_own hv).form
  obtain ⟨A', ck, rfl, _⟩ := (Rd.of_own hk).form
  have c0 := r6.c0
  have c1 := r6.c1
  have c2 := r6.c2
  have c3 := r6.c3
  have c4 := r6.c4
  clear r6 h1
  go_enter Tryz.func118, Tryz.ntmps118
  go_wp2_with (first | (go_at_call 72; refine (find _ _ h).mono ?_; rintro e w' ⟨rfl, rfl⟩; rw [hf]) | (go_at_call 88; refine (apart c.owner c.a c.b _ _ c.vals (ns c.kids) _ (Rd.of_own hv) (by rw [ns_length]; exact Rd.of_own hk) nv (by rw [ns_length]; exact nk)).mono ?_; rintro e w1 ⟨v1, k1, rfl, ho1, ho2, hb1⟩; obtain ⟨X1, m1, rfl, _⟩ := (Rd.of_own ho1).form; rw [ns_length] at ho2; obtain ⟨X2, m2, rfl, _⟩ := (Rd.of_own ho2).form; have q1 := (C5.new w 94 (.int .u32 0) (.int .u32 0) (.int .u32 0) (.slice none 0 0) (.slice none 0 0)).below hb1; obtain ⟨d0, d1, d2, d3, d4, g0, g1, g2, g3, g4⟩ := q1.all; have N1 := Lib.hid (own_ne ho1 q1 (by decide)); have N2 := Lib.hid (own_ne ho2 q1 (by decide)); have O1 := Lib.hid ho1; have O2 := Lib.hid ho2; have B1 := Lib.hid hb1; clear q1 ho1 ho2 hb1))
  refine bodyPost_ret (v := .tuple #[cagg c.owner c.a c.b (.slice X1 c.vals.length m1) (.slice X2 c.kids.length m2), .bool true]) (by simp [results, Tryz.results118, go_sem, d0, d1, d2, d3, d4]) rfl ⟨_, _, rfl, ?_, ?_, ?_⟩
  · exact (((((((Kp.refl (fun k => k = w.heap.size) w1).setCell (.inl rfl) _).setCell (.inl rfl) _).setCell (.inl rfl) _).setCell (.inl rfl) _).setCell (.inl rfl) _).own (own_less O1.out (by simp)) N1.out)
  · exact (((((((Kp.refl (fun k => k = w.heap.size) w1).setCell (.inl rfl) _).setCell (.inl rfl) _).setCell (.inl rfl) _).setCell (.inl rfl) _).setCell (.inl rfl) _).own (own_less O2.out (by simp)) N2.out)
  · have hb : Below w.heap.size w w1 := ((Below.refl _ w).alloc (Nat.le_refl _) _).trans (B1.out.mono (by simp))
    exact ((((hb.setCell (Nat.le_refl _) _).setCell (Nat.le_refl _) _).setCell (Nat.le_refl _) _).setCell (Nat.le_refl _) _).setCell (Nat.le_refl _) _

end Go.Proofs.YtkkfhbcnfknmaaaGreat

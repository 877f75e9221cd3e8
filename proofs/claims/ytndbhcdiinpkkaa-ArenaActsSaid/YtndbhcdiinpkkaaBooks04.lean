/- Layer 4's law: the books behind Edit; how many cells are held. -/
import Derived.Test.YtndbhcdiinpkkaaState04
namespace Go.Proofs.Ytndbhcdiinpkkaa
open Go.RowKit

theorem sumTo_add (f g : Nat → Nat) : ∀ n, sumTo n (fun j => f j + g j) = sumTo n f + sumTo n g
  | 0 => rfl
  | n + 1 => by rw [sumTo, sumTo, sumTo, sumTo_add f g n]; omega
theorem sumTo_swap (f : Nat → Nat → Nat) (m : Nat) : ∀ n, sumTo n (fun i => sumTo m (fun j => f i j)) = sumTo m (fun j => sumTo n (fun i => f i j))
  | 0 => (sumTo_zero fun _ _ => rfl).symm
  | n + 1 => by
    rw [sumTo, sumTo_swap f m n, ← sumTo_add]
    exact sumTo_congr m fun j _ => rfl
theorem sumTo_one {a c : Nat} : ∀ {n : Nat}, a < n → sumTo n (fun i => if i = a then c else 0) = c
  | 0, h => by omega
  | n + 1, h => by
    rw [sumTo]
    by_cases e : n = a
    · subst e; rw [if_pos rfl, sumTo_zero fun j hj => if_neg (by omega)]; omega
    · rw [if_neg e, sumTo_one (show a < n by omega)]; rfl

section
variable {nd most L : Nat} {D : Nat → Dc} {Nm mine own : Nat → Nat} {M : Cells}
/-- As many numbers are held as names. -/
theorem Inv.live (h : Inv nd most L D Nm mine own M) : live (most + 1) M = dlive nd D := by
  have e1 : ∀ i, i < most + 1 → one (M i) = sumTo nd fun k => if 1 ≤ (D k).refs ∧ Nm k = i then 1 else 0 := fun i _ => by
    cases e : M i with
    | none =>
      rw [sumTo_zero fun k hk => if_neg fun ⟨a, a'⟩ => h.rel.ne hk a (a' ▸ e)]
      rfl
    | some x =>
      obtain ⟨k, k1, k2, k3⟩ := h.rel.r3 i (by rw [e]; simp)
      have : sumTo nd (fun j => if 1 ≤ (D j).refs ∧ Nm j = i then 1 else 0) = sumTo nd (fun j => if j = k then 1 else 0) := sumTo_congr nd fun j hj => by
        by_cases ej : j = k
        · subst ej; rw [if_pos ⟨k2, k3⟩, if_pos rfl]
        · rw [if_neg ej, if_neg fun ⟨a, a'⟩ => ej (h.rel.r2 j k hj k1 a k2 (a'.trans k3.symm))]
      rw [this, sumTo_one k1]
      rfl
  unfold Proofs.Ytndbhcdiinpkkaa.live dlive
  rw [sumTo_congr _ e1, sumTo_swap (fun i k => if 1 ≤ (D k).refs ∧ Nm k = i then 1 else 0)]
  refine sumTo_congr nd fun k hk => ?_
  by_cases hh : 1 ≤ (D k).refs
  · rw [if_pos hh]
    refine Eq.trans (sumTo_congr _ fun i _ => ?_) (sumTo_one (a := Nm k) (c := 1) (h.pos hk hh).2)
    by_cases e : i = Nm k
    · rw [if_pos e, if_pos ⟨hh, e.symm⟩]
    · rw [if_neg e, if_neg fun ⟨_, a⟩ => e a.symm]
  · rw [if_neg hh]
    exact sumTo_zero fun i _ => if_neg fun ⟨a, _⟩ => hh a

/-- One hold of a name more. -/
def inc (mine : Nat → Nat) (x : Nat) : Nat → Nat := if x = 0 then mine else upd mine x (mine x + 1)
theorem inc_zero (mine : Nat → Nat) : inc mine 0 = mine := if_pos rfl
theorem inc_pos (mine : Nat → Nat) {x : Nat} (h : x ≠ 0) : inc mine x = upd mine x (mine x + 1) := if_neg h
theorem inc_at (mine : Nat → Nat) (x : Nat) {k : Nat} (hk : k ≠ 0) : inc mine x k = mine k + [x].count k := by
  unfold inc
  rw [List.count_singleton]
  by_cases e : x = 0
  · rw [if_pos e, if_neg (by subst e; simpa using Ne.symm hk)]; rfl
  · rw [if_neg e]
    by_cases e2 : k = x
    · subst e2; rw [upd_same, if_pos (by simp)]
    · rw [upd_other _ _ e2, if_neg (by simpa using Ne.symm e2)]; rfl
theorem inc2_at (mine : Nat → Nat) (x y : Nat) {k : Nat} (hk : k ≠ 0) : inc (inc mine x) y k = mine k + [x, y].count k := by
  rw [inc_at _ y hk, inc_at _ x hk, show [x, y] = [x] ++ [y] from rfl, List.count_append]
  omega
theorem inc_zero_at (mine : Nat → Nat) (x : Nat) (h : mine 0 = 0) : inc mine x 0 = 0 := by
  unfold inc
  split
  · exact h
  · rename_i e; rw [upd_other _ _ (Ne.symm e)]; exact h
theorem inc_le (mine : Nat → Nat) (x : Nat) {B : Nat} (h : ∀ k, mine k ≤ B) : ∀ k, inc mine x k ≤ B + 1 := fun k => by
  unfold inc
  split
  · have := h k; omega
  · by_cases e : k = x
    · subst e; rw [upd_same]; have := h k; omega
    · rw [upd_other _ _ e]; have := h k; omega
theorem inc_ge (mine : Nat → Nat) (x : Nat) : ∀ k, mine k ≤ inc mine x k := fun k => by
  unfold inc
  split
  · exact Nat.le_refl _
  · by_cases e : k = x
    · subst e; rw [upd_same]; omega
    · rw [upd_other _ _ e]; exact Nat.le_refl _
theorem Gives.more {x y : Nat} {mine' : Nat → Nat} (h : Gives nd mine x y) (hm : ∀ k, mine k ≤ mine' k) : Gives nd mine' x y :=
  ⟨h.1, h.2.1, fun e => Nat.le_trans (h.2.2.1 e) (hm x), fun e => Nat.le_trans (h.2.2.2.1 e) (hm y), fun e e' => Nat.le_trans (h.2.2.2.2 e e') (hm x)⟩

/-- Other contents of a cell that the caller alone holds. -/
theorem Inv.edit (h : Inv nd most L D Nm mine own M) {k x y : Nat} {wo : Int} (hk : 1 ≤ mine k) (hr : (D k).refs = 1) (hg : Gives nd mine x y) (hx : x ≠ k) (hy : y ≠ k) (hw : 0 ≤ wo ∧ wo ≤ 4294967295) :
    Inv nd most L (upd D k { D k with x := x, y := y, word := wo }) Nm (dec (dec (inc (inc mine (D k).x) (D k).y) x) y) (fun i => own i - [Nm x, Nm y].count i + [Nm (D k).x, Nm (D k).y].count i) (upd M (Nm k) (some (cellOf nx Nm { D k with x := x, y := y, word := wo }, 1))) := by
  obtain ⟨k1, k2, k0⟩ := h.held hk
  obtain ⟨hxh, hyh⟩ := h.ofGives hg
  obtain ⟨o1, o2, o3, o4⟩ := h.rel.r4 k k1 k2
  have hM := h.rel.r1 k k1 k2
  rw [hr] at hM
  have hne : ∀ a, a ≠ k → (a ≠ 0 → a < nd ∧ 1 ≤ (D a).refs) → Nm a ≠ Nm k := fun a ha hh e => by
    by_cases a0 : a = 0
    · subst a0; rw [h.rel.z2] at e; have := (h.pos k1 k2).1; omega
    · exact ha (h.rel.r2 a k (hh a0).1 k1 (hh a0).2 k2 e)
  have hrf : ∀ j, (upd D k { D k with x := x, y := y, word := wo } j).refs = (D j).refs := fun j => by
    by_cases e : j = k
    · subst e; rw [upd_same]
    · rw [upd_other _ _ e]
  have hcount : ∀ j, j < nd → 1 ≤ (D j).refs → own (Nm j) - [Nm x, Nm y].count (Nm j) + [Nm (D k).x, Nm (D k).y].count (Nm j) = mine j - [x, y].count j + [(D k).x, (D k).y].count j := fun j hj hj' => by
    rw [h.count hxh hyh hj hj', h.count (fun e => ⟨o1, o3 e⟩) (fun e => ⟨o2, o4 e⟩) hj hj', h.ow j hj hj']
  have hmine : ∀ j, j ≠ 0 → dec (dec (inc (inc mine (D k).x) (D k).y) x) y j = mine j - [x, y].count j + [(D k).x, (D k).y].count j := fun j hj => by
    rw [dec2_at _ _ _ hj, inc2_at _ _ _ hj]
    have := hg.count hj
    omega
  have hown : 1 ≤ own (Nm k) := by rw [h.ow k k1 k2]; exact hk
  refine ⟨⟨?_, h.rel.z2, ?_, ?_, ?_, ?_⟩, h.ok.edit hM hown (h.may hg) ?_, ?_, ?_, ?_, fun j => by rw [hrf]; exact h.lim j, fun j => ?_⟩
  · rw [hrf]; exact h.rel.z1
  · intro j hj hj'
    rw [hrf] at hj' ⊢
    by_cases e : j = k
    · subst e; rw [upd_same, upd_same, hr]
    · rw [upd_other _ _ (fun e' => e (h.rel.r2 j k hj k1 hj' k2 e')), upd_other _ _ e]; exact h.rel.r1 j hj hj'
  · intro i j hi hj a a' e
    rw [hrf] at a a'
    exact h.rel.r2 i j hi hj a a' e
  · intro i hi
    by_cases e : i = Nm k
    · exact ⟨k, k1, by rw [hrf]; exact k2, e.symm⟩
    · rw [upd_other _ _ e] at hi
      obtain ⟨j, j1, j2, j3⟩ := h.rel.r3 i hi
      exact ⟨j, j1, by rw [hrf]; exact j2, j3⟩
  · intro j hj hj'
    rw [hrf] at hj'
    by_cases e : j = k
    · subst e
      rw [upd_same]
      exact ⟨hg.1, hg.2.1, fun a => by rw [hrf]; exact (hxh a).2, fun a => by rw [hrf]; exact (hyh a).2⟩
    · obtain ⟨a1, a2, a3, a4⟩ := h.rel.r4 j hj hj'
      rw [upd_other _ _ e]
      exact ⟨a1, a2, fun a => by rw [hrf]; exact a3 a, fun a => by rw [hrf]; exact a4 a⟩
  · show Nm k ∉ [Nm x, Nm y]
    intro hm
    simp at hm
    rcases hm with e | e
    · exact hne x hx hxh e.symm
    · exact hne y hy hyh e.symm
  · intro j hj hj'
    rw [hrf] at hj'
    have j0 : j ≠ 0 := by rintro rfl; have := h.rel.z1; omega
    rw [hmine j j0]
    exact hcount j hj hj'
  · intro j hj hj'
    rw [hrf] at hj'
    have hm := h.dead j hj hj'
    by_cases j0 : j = 0
    · subst j0; exact dec_zero_at _ _ (dec_zero_at _ _ (inc_zero_at _ _ (inc_zero_at _ _ hm)))
    · rw [hmine j j0, hm]
      have n1 : (D k).x ≠ j := by rintro rfl; have := o3 j0; omega
      have n2 : (D k).y ≠ j := by rintro rfl; have := o4 j0; omega
      simp [n1, n2]
  · intro j hj
    obtain ⟨m1, m2⟩ := h.out j hj
    rw [hrf, hmine j (by omega), m1]
    have n1 : (D k).x ≠ j := by omega
    have n2 : (D k).y ≠ j := by omega
    exact ⟨by simp [n1, n2], m2⟩
  · by_cases e : j = k
    · subst e; rw [upd_same]; exact hw
    · rw [upd_other _ _ e]; exact h.wd j
end

end Go.Proofs.Ytndbhcdiinpkkaa

/- Layer 4: the document's cells, by name, and the arena's, by number: how they stand to each other. Of the dump nothing. -/
import Derived.Test.YtndbhcdiinpkkaaRef04
namespace Go.Proofs.Ytndbhcdiinpkkaa

/-- The cell that the document's cell d is. -/
def cellOf (nx : Int → Int) (Nm : Nat → Nat) (d : Dc) : Hc := ⟨d.owner, d.word, nx d.word, [(2, d.word, ⟨#[]⟩)], [Nm d.x, Nm d.y]⟩
structure Rel (nx : Int → Int) (nd : Nat) (D : Nat → Dc) (Nm : Nat → Nat) (M : Cells) : Prop where
  z1 : (D 0).refs = 0
  z2 : Nm 0 = 0
  r1 : ∀ k, k < nd → 1 ≤ (D k).refs → M (Nm k) = some (cellOf nx Nm (D k), (D k).refs)
  r2 : ∀ k k', k < nd → k' < nd → 1 ≤ (D k).refs → 1 ≤ (D k').refs → Nm k = Nm k' → k = k'
  r3 : ∀ i, M i ≠ none → ∃ k, k < nd ∧ 1 ≤ (D k).refs ∧ Nm k = i
  r4 : ∀ k, k < nd → 1 ≤ (D k).refs → (D k).x < nd ∧ (D k).y < nd ∧ ((D k).x ≠ 0 → 1 ≤ (D (D k).x).refs) ∧ ((D k).y ≠ 0 → 1 ≤ (D (D k).y).refs)
/-- D' is D with some references less. -/
def Le (D' D : Nat → Dc) : Prop := ∀ k, (D' k).refs ≤ (D k).refs ∧ (D' k).x = (D k).x ∧ (D' k).y = (D k).y ∧ (D' k).owner = (D k).owner ∧ (D' k).word = (D k).word
theorem Le.refl (D : Nat → Dc) : Le D D := fun _ => ⟨Nat.le_refl _, rfl, rfl, rfl, rfl⟩
theorem Le.trans {A B C : Nat → Dc} (h : Le A B) (k : Le B C) : Le A C := fun i => by
  obtain ⟨a1, a2, a3, a4, a5⟩ := h i
  obtain ⟨b1, b2, b3, b4, b5⟩ := k i
  exact ⟨Nat.le_trans a1 b1, a2.trans b2, a3.trans b3, a4.trans b4, a5.trans b5⟩
theorem Le.less (D : Nat → Dc) (x r : Nat) (hr : r ≤ (D x).refs) : Le (upd D x { D x with refs := r }) D := fun k => by
  by_cases e : k = x
  · subst e; rw [upd_same]; exact ⟨hr, rfl, rfl, rfl, rfl⟩
  · rw [upd_other _ _ e]; exact ⟨Nat.le_refl _, rfl, rfl, rfl, rfl⟩

section
variable {nx : Int → Int} {nd N : Nat} {D D' : Nat → Dc} {Nm own : Nat → Nat} {M M' : Cells} {t s : List Nat}
theorem Rel.kd (h : Rel nx nd D Nm M) {k : Nat} (hk : k < nd) (hh : 1 ≤ (D k).refs) : kd (M (Nm k)) = [Nm (D k).x, Nm (D k).y] := by rw [h.r1 k hk hh]; rfl
theorem Rel.rf (h : Rel nx nd D Nm M) {k : Nat} (hk : k < nd) (hh : 1 ≤ (D k).refs) : rf (M (Nm k)) = (D k).refs := by rw [h.r1 k hk hh]; rfl
theorem Rel.ne (h : Rel nx nd D Nm M) {k : Nat} (hk : k < nd) (hh : 1 ≤ (D k).refs) : M (Nm k) ≠ none := by rw [h.r1 k hk hh]; simp
/-- A name that was held, and whose number still is, is held. -/
theorem Rel.still (h : Rel nx nd D Nm M) (h' : Rel nx nd D' Nm M') (hl : Le D' D) {y : Nat} (hy : y < nd) (hh : 1 ≤ (D y).refs) (hM : M' (Nm y) ≠ none) : 1 ≤ (D' y).refs := by
  obtain ⟨k, k1, k2, k3⟩ := h'.r3 _ hM
  have := h.r2 k y k1 hy (Nat.le_trans k2 (hl k).1) hh k3
  subst this
  exact k2

theorem release_eq (h : Rel nx nd D Nm M) {x : Nat} (hx : x < nd) (hh : 1 ≤ (D x).refs) :
    release M (Nm x) = if 1 < (D x).refs then (upd M (Nm x) (some (cellOf nx Nm (D x), (D x).refs - 1)), []) else (upd M (Nm x) none, [Nm (D x).x, Nm (D x).y]) := by
  unfold release
  rw [h.r1 x hx hh]
  rfl
/-- One reference of a name is let go. -/
theorem Rel.release (h : Rel nx nd D Nm M) (ok : Ok N M own t) {x : Nat} (hx : x < nd) (hh : 1 ≤ (D x).refs) (ht : Nm x ∈ t) : Rel nx nd (upd D x { D x with refs := (D x).refs - 1 }) Nm (Proofs.Ytndbhcdiinpkkaa.release M (Nm x)).1 := by
  have h0 : x ≠ 0 := by rintro rfl; have := h.z1; omega
  have hM1 : ∀ k, k < nd → 1 ≤ (upd D x { D x with refs := (D x).refs - 1 } k).refs → 1 ≤ (D k).refs ∧ (k = x → 1 < (D x).refs) := fun k hk hk' => by
    by_cases e : k = x
    · subst e; rw [upd_same] at hk'; simp only at hk'; exact ⟨by omega, fun _ => by omega⟩
    · rw [upd_other _ _ e] at hk'; exact ⟨hk', fun e' => absurd e' e⟩
  have hnum : ∀ k, k < nd → 1 ≤ (D k).refs → k ≠ x → Nm k ≠ Nm x := fun k hk hk' e e' => e (h.r2 k x hk hx hk' hh e')
  rw [release_eq h hx hh]
  refine ⟨?_, h.z2, ?_, ?_, ?_, ?_⟩
  · rw [upd_other _ _ (Ne.symm h0)]; exact h.z1
  · intro k hk hk'
    obtain ⟨k1, k2⟩ := hM1 k hk hk'
    by_cases e : k = x
    · subst e
      rw [if_pos (k2 rfl)]
      show upd M (Nm k) _ (Nm k) = _
      rw [upd_same, upd_same]
      rfl
    · rw [upd_other _ _ e]
      by_cases hr : 1 < (D x).refs
      · rw [if_pos hr]; show upd M (Nm x) _ (Nm k) = _; rw [upd_other _ _ (hnum k hk k1 e)]; exact h.r1 k hk k1
      · rw [if_neg hr]; show upd M (Nm x) _ (Nm k) = _; rw [upd_other _ _ (hnum k hk k1 e)]; exact h.r1 k hk k1
  · intro k k' hk hk' a a' e
    exact h.r2 k k' hk hk' (hM1 k hk a).1 (hM1 k' hk' a').1 e
  · intro i hi
    by_cases hr : 1 < (D x).refs
    · rw [if_pos hr] at hi
      by_cases e : i = Nm x
      · subst e; exact ⟨x, hx, by rw [upd_same]; simp only; omega, rfl⟩
      · have hi' : M i ≠ none := by change upd M (Nm x) _ i ≠ none at hi; rwa [upd_other _ _ e] at hi
        obtain ⟨k, k1, k2, k3⟩ := h.r3 i hi'
        exact ⟨k, k1, by rw [upd_other _ _ (by rintro rfl; exact e k3.symm)]; exact k2, k3⟩
    · rw [if_neg hr] at hi
      change upd M (Nm x) none i ≠ none at hi
      by_cases e : i = Nm x
      · subst e; rw [upd_same] at hi; exact absurd rfl hi
      · rw [upd_other _ _ e] at hi
        obtain ⟨k, k1, k2, k3⟩ := h.r3 i hi
        exact ⟨k, k1, by rw [upd_other _ _ (by rintro rfl; exact e k3.symm)]; exact k2, k3⟩
  · intro k hk hk'
    obtain ⟨k1, k2⟩ := hM1 k hk hk'
    have hxy : (upd D x { D x with refs := (D x).refs - 1 } k).x = (D k).x ∧ (upd D x { D x with refs := (D x).refs - 1 } k).y = (D k).y := by
      by_cases e : k = x
      · subst e; rw [upd_same]; exact ⟨rfl, rfl⟩
      · rw [upd_other _ _ e]; exact ⟨rfl, rfl⟩
    rw [hxy.1, hxy.2]
    obtain ⟨a1, a2, a3, a4⟩ := h.r4 k hk k1
    have key : ∀ a, a ≠ 0 → Nm a ∈ Proofs.Ytndbhcdiinpkkaa.kd (M (Nm k)) → 1 ≤ (D a).refs → 1 ≤ (upd D x { D x with refs := (D x).refs - 1 } a).refs := fun a ha hm hr => by
      by_cases e : a = x
      · subst e
        rw [upd_same]
        simp only
        have hl := ok.lt (h.ne hk k1)
        have hc := count_le_occ (M := M) hl.2 (Nm a)
        have hp := List.count_pos_iff.2 hm
        have hp2 := List.count_pos_iff.2 ht
        have hx1 := ok.lt (h.ne hx hh)
        have hb := ok.bal (Nm a) hx1.1
        rw [h.rf hx hh] at hb
        omega
      · rw [upd_other _ _ e]; exact hr
    rw [h.kd hk k1] at key
    exact ⟨a1, a2, fun e => key _ e (by simp) (a3 e), fun e => key _ e (by simp) (a4 e)⟩
end

end Go.Proofs.Ytndbhcdiinpkkaa

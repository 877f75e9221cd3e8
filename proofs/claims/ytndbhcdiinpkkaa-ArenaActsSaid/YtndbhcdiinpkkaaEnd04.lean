/- Layer 4's law: all holds are let go; no cell is left. -/
import Derived.Test.YtndbhcdiinpkkaaKeepAct04
import Derived.Test.YtndbhcdiinpkkaaLaw04
namespace Go.Proofs.Ytndbhcdiinpkkaa
open Go.RowKit

/-- How often the caller holds a number. -/
def ownOf (nd : Nat) (Nm mine : Nat → Nat) (i : Nat) : Nat := sumTo nd fun k => if Nm k = i then mine k else 0
theorem ownOf_zero {nd : Nat} {Nm mine : Nat → Nat} (h : ∀ k, k < nd → mine k = 0) (i : Nat) : ownOf nd Nm mine i = 0 :=
  sumTo_zero fun k hk => by rw [h k hk]; split <;> rfl
theorem ownOf_less {nd : Nat} {Nm mine : Nat → Nat} {k : Nat} (hk : k < nd) (hm : 1 ≤ mine k) (i : Nat) : ownOf nd Nm (upd mine k (mine k - 1)) i = ownOf nd Nm mine i - if i = Nm k then 1 else 0 := by
  have e : (fun j => if Nm j = i then upd mine k (mine k - 1) j else 0) = upd (fun j => if Nm j = i then mine j else 0) k (if Nm k = i then mine k - 1 else 0) := by
    funext j
    by_cases ej : j = k
    · subst ej; rw [upd_same, upd_same]
    · rw [upd_other _ _ ej, upd_other _ _ ej]
  unfold ownOf
  rw [e]
  have h := sumTo_upd (fun j => if Nm j = i then mine j else 0) k (if Nm k = i then mine k - 1 else 0) nd hk
  have hle := le_sumTo (fun j => if Nm j = i then mine j else 0) nd hk
  by_cases ei : Nm k = i
  · rw [if_pos ei.symm]
    simp only [ei, if_true] at h hle ⊢
    omega
  · rw [if_neg (Ne.symm ei)]
    simp only [ei, if_false] at h ⊢
    omega
theorem ownOf_pos {nd : Nat} {Nm mine : Nat → Nat} {k : Nat} (hk : k < nd) (hm : 1 ≤ mine k) : 1 ≤ ownOf nd Nm mine (Nm k) := by
  have hle := le_sumTo (fun j => if Nm j = Nm k then mine j else 0) nd hk
  simp only [if_true] at hle
  unfold ownOf
  omega

/-- The caller lets its holds go: what stands meanwhile. -/
structure Fin4 (w0 w : World) (wb b rb nd most : Nat) (vC vn vm : Value) (D : Nat → Dc) (K : Nat → Value) (Nm mine : Nat → Nat) (M : Cells) (F : Nat → Prop) : Prop where
  law : Law w0 w wb b rb nd most vC vn vm D K Nm mine M F
  ok : Ok (most + 1) M (ownOf nd Nm mine) []
  rf : ∀ j, rf (M j) ≤ 1000
  pos : ∀ k, k < nd → 1 ≤ mine k → 1 ≤ Nm k
  le : ∀ k, mine k ≤ 1000
section
variable {w0 w w' : World} {wb b rb nd most L : Nat} {vC vn vm : Value} {D : Nat → Dc} {K : Nat → Value} {Nm mine own : Nat → Nat} {M M' : Cells} {F : Nat → Prop}
theorem Ok.byOwn {N : Nat} {own' : Nat → Nat} {t : List Nat} (h : Ok N M own t) (ho : ∀ i, 1 ≤ i → own' i = own i) : Ok N M own' t :=
  ⟨h.zero, h.top, h.pos, fun i hi => by rw [ho i hi]; exact h.bal i hi, h.rank⟩
theorem Fin4.start (h : Law w0 w wb b rb nd most vC vn vm D K Nm mine M F) (hI : Inv nd most L D Nm mine own M) (hL : L ≤ 1000) : Fin4 w0 w wb b rb nd most vC vn vm D K Nm mine M F := by
  refine ⟨h, hI.ok.byOwn fun i hi => ?_, fun j => Nat.le_trans (hI.rf_le j) hL, fun k hk hm => ?_, fun k => Nat.le_trans (hI.mine_le k) hL⟩
  · by_cases hM : M i = none
    · rw [(hI.ok.free hi hM).1]
      refine sumTo_zero fun k hk => ?_
      by_cases e : Nm k = i
      · rw [if_pos e]
        rcases Nat.eq_zero_or_pos (mine k) with e' | e'
        · exact e'
        · obtain ⟨k1, k2, _⟩ := hI.held e'
          exact absurd (e ▸ hM) (hI.rel.ne k1 k2)
      · rw [if_neg e]
    · obtain ⟨k, k1, k2, rfl⟩ := hI.rel.r3 i hM
      rw [hI.ow k k1 k2]
      unfold ownOf
      refine Eq.trans (sumTo_congr nd fun j hj => ?_) (sumTo_one (a := k) (c := mine k) k1)
      by_cases e : j = k
      · subst e; rw [if_pos rfl, if_pos rfl]
      · rw [if_neg e]
        by_cases e' : Nm j = Nm k
        · rw [if_pos e']
          rcases Nat.eq_zero_or_pos (mine j) with e2 | e2
          · exact e2
          · obtain ⟨j1, j2, _⟩ := hI.held e2
            exact absurd (hI.rel.r2 j k j1 k1 j2 k2 e') e
        · rw [if_neg e']
  · obtain ⟨k1, k2, _⟩ := hI.held hm
    exact (hI.pos k1 k2).1
theorem Fin4.ne (h : Fin4 w0 w wb b rb nd most vC vn vm D K Nm mine M F) {k : Nat} (hk : k < nd) (hm : 1 ≤ mine k) : M (Nm k) ≠ none := h.ok.owned (h.pos k hk hm) (ownOf_pos hk hm)
/-- One hold is let go: the arena first. -/
theorem Fin4.drop (h : Fin4 w0 w wb b rb nd most vC vn vm D K Nm mine M F) {k : Nat} (hk : k < nd) (hm : 1 ≤ mine k) (hd : Drops M [Nm k] M') : Ok (most + 1) M' (ownOf nd Nm (upd mine k (mine k - 1))) [] ∧ ∀ j, Proofs.Ytndbhcdiinpkkaa.rf (M' j) ≤ 1000 := by
  obtain ⟨o1, s1⟩ := hd.ok (h.ok.give (ownOf_pos hk hm))
  refine ⟨o1.byOwn fun i _ => ownOf_less hk hm i, fun j => ?_⟩
  cases e : M' j with
  | none => simp [Proofs.Ytndbhcdiinpkkaa.rf]
  | some x =>
    obtain ⟨r0, h0, hle⟩ := s1 j x.1 x.2 e
    have := h.rf j
    rw [h0] at this
    simp only [Proofs.Ytndbhcdiinpkkaa.rf] at this ⊢
    omega
theorem Fin4.next {w1 : World} {g c : Nat} (h : Fin4 w0 w wb b rb nd most vC vn vm D K Nm mine M F) {k : Nat} (hk : k < nd) (hm : 1 ≤ mine k) (hd : Drops M [Nm k] M') (ha : Ar w1 b most M' (Fn F w w1)) (hkp : Kp F w w1) (hv : vm = .slice (some ⟨g, 0, none⟩) nd c) :
    Fin4 w0 (w1.setCell ⟨g, k, none⟩ (.int .i64 ((mine k : Int) - 1))) wb b rb nd most vC vn vm D K Nm (upd mine k (mine k - 1)) M' (Fn F w w1) := by
  obtain ⟨o1, r1⟩ := h.drop hk hm hd
  have hl := h.law.arena ha hkp
  obtain ⟨s1, t1⟩ := hl.mem.setMine hk (mine k - 1) hv
  have e3 : ((mine k - 1 : Nat) : Int) = (mine k : Int) - 1 := by omega
  rw [e3] at s1 t1
  refine ⟨hl.numbers s1 t1, o1, r1, fun j hj hmj => h.pos j hj ?_, fun j => ?_⟩
  · by_cases e : j = k
    · subst e; exact hm
    · rwa [upd_other _ _ e] at hmj
  · by_cases e : j = k
    · subst e; rw [upd_same]; have := h.le j; omega
    · rw [upd_other _ _ e]; exact h.le j
theorem Fin4.nobody (h : Fin4 w0 w wb b rb nd most vC vn vm D K Nm mine M F) (hz : ∀ k, k < nd → mine k = 0) : live (most + 1) M = 0 :=
  live_zero (h.ok.nobody fun i => ownOf_zero hz i)
end

end Go.Proofs.Ytndbhcdiinpkkaa

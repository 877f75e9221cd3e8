/- An arena of the call's own; letting go of one cell. -/
import Derived.Test.YtgkhbnkbhcginaaEdit04
namespace Go.Proofs.Ytgkhbnkbhcginaa
open Go.RowKit

theorem Drops.inv {M M' : Cells} {l : List Nat} (h : Drops M l M') : (l = [] → M' = M) ∧ (∀ t x, l = t ++ [x] → Drops (release M x).1 (t ++ (release M x).2) M') := by
  cases h with
  | done => exact ⟨fun _ => rfl, fun t x e => by simp at e⟩
  | step h =>
    refine ⟨fun e => by simp at e, fun t x e => ?_⟩
    obtain ⟨rfl, e'⟩ := List.append_inj' e rfl
    injection e' with e'
    subst e'
    exact h
theorem drops_less {M M' : Cells} {i r : Nat} {c : Hc} (hi : M i = some (c, r)) (hr : 1 < r) (h : Drops M [i] M') : M' = upd M i (some (c, r - 1)) := by
  have h1 := h.inv.2 [] i rfl
  have e : release M i = (upd M i (some (c, r - 1)), []) := by unfold release; rw [hi]; simp only [hr, if_true]
  rw [e] at h1
  exact h1.inv.1 rfl
theorem drops_last {M M' : Cells} {i : Nat} {c : Hc} (hi : M i = some (c, 1)) (hc : c.kids = []) (h : Drops M [i] M') : M' = upd M i none := by
  have h1 := h.inv.2 [] i rfl
  have e : release M i = (upd M i none, []) := by unfold release; rw [hi, ← hc]; rfl
  rw [e] at h1
  exact h1.inv.1 rfl

/-- An arena of the call's own: all its blocks are new since w0, and nothing else has changed. -/
structure Lone (w0 w : World) (b most : Nat) (M : Cells) (F : Nat → Prop) : Prop where
  ar : Ar w b most M F
  bel : Below w0.heap.size w0 w
  new : ∀ k, F k → w0.heap.size ≤ k
section
variable {w0 w w' : World} {b most : Nat} {M M' : Cells} {F : Nat → Prop}
theorem below_kp (h : Below w0.heap.size w0 w) (k : Kp F w w') (hF : ∀ k, F k → w0.heap.size ≤ k) : Below w0.heap.size w0 w' :=
  ⟨k.os.trans h.os, k.tape.trans h.tape, k.output.trans h.output, Nat.le_trans h.size k.size, fun i hi => (k.block i (Nat.lt_of_lt_of_le hi h.size) (fun f => by have := hF i f; omega)).trans (h.block i hi)⟩
theorem Lone.step (h : Lone w0 w b most M F) (ha : Ar w' b most M' (Fn F w w')) (hk : Kp F w w') : Lone w0 w' b most M' (Fn F w w') :=
  ⟨ha, below_kp h.bel hk h.new, fun k hk' => by
    rcases hk' with hk' | hk'
    · exact h.new k hk'
    · exact Nat.le_trans h.bel.size hk'.1⟩
theorem Lone.below (h : Lone w0 w b most M F) (hb : Below w.heap.size w w') : Lone w0 w' b most M F := ⟨h.ar.below hb, h.bel.trans (hb.mono h.bel.size), h.new⟩
theorem Lone.alloc (h : Lone w0 w b most M F) (o : Obj) : Lone w0 (w.alloc o) b most M F := h.below ((Below.refl _ _).alloc (Nat.le_refl _) o)
/-- A store into a block that is neither old nor the arena's. -/
theorem Lone.set (h : Lone w0 w b most M F) {g o : Nat} (hg : w0.heap.size ≤ g) (hF : ¬ F g) (u : Value) : Lone w0 (w.setCell ⟨g, o, none⟩ u) b most M F :=
  ⟨h.ar.kp (Kp.one w g o u) (fun _ hk e => hF (e ▸ hk)), h.bel.setCell hg u, h.new⟩
end

theorem rf_upd {M : Cells} {B : Nat} (h : ∀ j, rf (M j) ≤ B) (i : Nat) (c : Hc) {r : Nat} (hr : r ≤ B) : ∀ j, rf (upd M i (some (c, r)) j) ≤ B := fun j => by
  by_cases e : j = i
  · subst e; rw [upd_same]; exact hr
  · rw [upd_other _ _ e]; exact h j

end Go.Proofs.Ytgkhbnkbhcginaa

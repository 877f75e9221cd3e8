/- Blocks of one cell, known whole: variables that a loop over a function shares with its body. -/
import Derived.Test.YtgkhbnkbhcginaaSlices
import Derived.RangeFuncNested
namespace Go.Proofs.Ytgkhbnkbhcginaa
open Go.RowKit

/-- A block of one cell, known whole. -/
def C1 (w : World) (b : Nat) (t : TypeId) (x : Value) : Prop := w.heap[b]? = some (.cells #[x] t (0, 0))
section
variable {w w' : World} {b : Nat} {t : TypeId} {x : Value}
theorem C1.c0 (h : C1 w b t x) : w.cell? ⟨b, 0, none⟩ = some x := by simpa using cell_of_row w b 0 _ _ (0, 0) h
theorem C1.fz (h : C1 w b t x) : w.frozen? ⟨b, 0, none⟩ = false := frozen_of_row w b 0 _ _ h
theorem C1.all (h : C1 w b t x) : w.cell? ⟨b, 0, none⟩ = some x ∧ w.frozen? ⟨b, 0, none⟩ = false := ⟨h.c0, h.fz⟩
theorem C1.set (h : C1 w b t x) (y : Value) : C1 (w.setCell ⟨b, 0, none⟩ y) b t y := by
  have := heap_setCell_same w b 0 _ _ y h
  simpa [C1] using this
theorem C1.other (h : C1 w b t x) {g o : Nat} (hg : b ≠ g) (y : Value) : C1 (w.setCell ⟨g, o, none⟩ y) b t x := (Below.heap_setCell w ⟨g, o, none⟩ y b hg).trans h
theorem C1.lt (h : C1 w b t x) : b < w.heap.size := (Array.getElem?_eq_some_iff.1 h).1
theorem C1.kp {F : Nat → Prop} (h : C1 w b t x) (hk : Kp F w w') (hF : ¬ F b) : C1 w' b t x := hk.at h hF
theorem C1.below (h : C1 w b t x) (hb : Below w.heap.size w w') : C1 w' b t x := (hb.block b h.lt).trans h
theorem C1.new (w : World) (t : TypeId) (x : Value) : C1 (w.alloc (.cells #[x] t)) w.heap.size t x := heap_alloc_new w _
theorem C1.alloc (h : C1 w b t x) (o : Obj) : C1 (w.alloc o) b t x := (Below.heap_alloc w o b h.lt).trans h
theorem C1.drew (h : C1 w b t x) : C1 w.drew b t x := h
/-- A block of cells lies as it lay where a block that is no cells turned. -/
theorem C1.own (h : C1 w b t x) {row : Option Nat} {B : Nat} (hg : w.grownBy w' row) (hr : ∀ r, row = some r → B ≤ r ∧ ∃ o : Obj, w.heap[r]? = some o ∧ o.isCells = false) : C1 w' b t x :=
  (hg.block b h.lt fun e => by
    obtain ⟨_, o, ho, hc⟩ := hr b e.symm
    rw [h] at ho
    cases ho
    cases hc).trans h
theorem Kp.own_from {F : Nat → Prop} {w0 : World} (h : Kp F w0 w) {row : Option Nat} (hg : w.grownBy w' row) (hr : ∀ r, row = some r → w0.heap.size ≤ r ∧ ∃ o : Obj, w.heap[r]? = some o ∧ o.isCells = false) : Kp F w0 w' :=
  h.trans (G := fun k => row = some k) (Kp.of_grown hg fun _ e => .inl e) fun k e => .inr (hr k e).1
/-- Behind a store into it a block holds what was stored. -/
theorem C1.stored {y : Value} (h : C1 (w.setCell ⟨b, 0, none⟩ y) b t x) : C1 (w.setCell ⟨b, 0, none⟩ y) b t y := by
  have hlt := h.lt
  simp only [World.setCell, Array.size_modify] at hlt
  have := h
  simp only [C1, World.setCell, Array.getElem?_modify, if_true] at this ⊢
  rw [Array.getElem?_eq_getElem hlt] at this ⊢
  simp only [Option.map_some, Option.some.injEq] at this ⊢
  cases ho : w.heap[b] with
  | cells c e f =>
    rw [ho] at this
    simp only [Option.isSome_none, Bool.false_eq_true, if_false, Obj.cells.injEq] at this ⊢
    obtain ⟨h1, rfl, rfl⟩ := this
    have h2 : 0 < c.size := by
      have := congrArg Array.size h1
      simp at this
      omega
    have h3 := congrArg (fun A => A[0]?) h1
    simp [h2] at h3
    rw [h1, h3]
    simp
  | _ => rw [ho] at this; simp at this
/-- The books of a range, put away. -/
theorem C1.put (h : C1 w b t x) {k : Nat} (hk : b ≠ k) (o : Obj) : C1 (w.putObj k o) b t x := (World.putObj_heap_other hk).trans h
theorem below_put {B k : Nat} {w0 : World} (h : Below B w0 w) (hk : B ≤ k) (o : Obj) : Below B w0 (w.putObj k o) :=
  ⟨h.os, h.tape, h.output, by rw [World.putObj_size]; exact h.size, fun i hi => (World.putObj_heap_other (by omega)).trans (h.block i hi)⟩
/-- Any block of cells does. -/
theorem cells_own {A : Array Value} {z : Nat × Nat} (h : w.heap[b]? = some (.cells A t z)) {row : Option Nat} {B : Nat} (hg : w.grownBy w' row) (hr : ∀ r, row = some r → B ≤ r ∧ ∃ o : Obj, w.heap[r]? = some o ∧ o.isCells = false) : w'.heap[b]? = some (.cells A t z) :=
  (hg.block b (Array.getElem?_eq_some_iff.1 h).1 fun e => by
    obtain ⟨_, o, ho, hc⟩ := hr b e.symm
    rw [h] at ho
    cases ho
    cases hc).trans h
theorem below_own_from {w0 : World} (h : Below w0.heap.size w0 w) {row : Option Nat} {B : Nat} (hB : w0.heap.size ≤ B) (hg : w.grownBy w' row) (hr : ∀ r, row = some r → B ≤ r ∧ ∃ o : Obj, w.heap[r]? = some o ∧ o.isCells = false) : Below w0.heap.size w0 w' :=
  ⟨hg.os.trans h.os, hg.tape.trans h.tape, hg.output.trans h.output, Nat.le_trans h.size hg.size, fun i hi => (hg.block i (Nat.lt_of_lt_of_le hi h.size) fun e => by have := (hr i e.symm).1; omega).trans (h.block i hi)⟩
end

end Go.Proofs.Ytgkhbnkbhcginaa

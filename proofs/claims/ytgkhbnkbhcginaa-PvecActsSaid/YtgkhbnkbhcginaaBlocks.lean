/- Blocks of two, four, five and six cells, known whole. -/
import Derived.Test.YtgkhbnkbhcginaaSlices
namespace Go.Proofs.Ytgkhbnkbhcginaa
open Go.RowKit

/-- A block of 2 cells, known whole. -/
def C2 (w : World) (b : Nat) (t : TypeId) (x0 x1 : Value) : Prop := w.heap[b]? = some (.cells #[x0, x1] t (0, 0))
section
variable {w w' : World} {b : Nat} {t : TypeId} {x0 x1 : Value}
theorem C2.c0 (h : C2 w b t x0 x1) : w.cell? ⟨b, 0, none⟩ = some x0 := by simpa using cell_of_row w b 0 _ _ (0, 0) h
theorem C2.c1 (h : C2 w b t x0 x1) : w.cell? ⟨b, 1, none⟩ = some x1 := by simpa using cell_of_row w b 1 _ _ (0, 0) h
theorem C2.fz (h : C2 w b t x0 x1) (i : Nat) : w.frozen? ⟨b, i, none⟩ = false := frozen_of_row w b i _ _ h
theorem C2.all (h : C2 w b t x0 x1) : w.cell? ⟨b, 0, none⟩ = some x0 ∧ w.cell? ⟨b, 1, none⟩ = some x1 ∧ w.frozen? ⟨b, 0, none⟩ = false ∧ w.frozen? ⟨b, 1, none⟩ = false :=
  ⟨h.c0, h.c1, h.fz 0, h.fz 1⟩
theorem C2.set0 (h : C2 w b t x0 x1) (y : Value) : C2 (w.setCell ⟨b, 0, none⟩ y) b t y x1 := by
  have := heap_setCell_same w b 0 _ _ y h
  simpa [C2] using this
theorem C2.set1 (h : C2 w b t x0 x1) (y : Value) : C2 (w.setCell ⟨b, 1, none⟩ y) b t x0 y := by
  have := heap_setCell_same w b 1 _ _ y h
  simpa [C2] using this
theorem C2.other (h : C2 w b t x0 x1) {g o : Nat} (hg : b ≠ g) (y : Value) : C2 (w.setCell ⟨g, o, none⟩ y) b t x0 x1 := (Below.heap_setCell w ⟨g, o, none⟩ y b hg).trans h
theorem C2.lt (h : C2 w b t x0 x1) : b < w.heap.size := (Array.getElem?_eq_some_iff.1 h).1
theorem C2.kp {F : Nat → Prop} (h : C2 w b t x0 x1) (hk : Kp F w w') (hF : ¬ F b) : C2 w' b t x0 x1 := hk.at h hF
theorem C2.below (h : C2 w b t x0 x1) (hb : Below w.heap.size w w') : C2 w' b t x0 x1 := (hb.block b h.lt).trans h
theorem C2.grown {row : Option Nat} (h : C2 w b t x0 x1) (hg : w.grownBy w' row) (hb : some b ≠ row) : C2 w' b t x0 x1 := (hg.block b h.lt hb).trans h
theorem C2.new (w : World) (t : TypeId) (x0 x1 : Value) : C2 (w.alloc (.cells #[x0, x1] t)) w.heap.size t x0 x1 := heap_alloc_new w _
theorem C2.alloc (h : C2 w b t x0 x1) (o : Obj) : C2 (w.alloc o) b t x0 x1 := (Below.heap_alloc w o b h.lt).trans h
theorem C2.drew (h : C2 w b t x0 x1) : C2 w.drew b t x0 x1 := h
end

/-- A block of 4 cells, known whole. -/
def C4 (w : World) (b : Nat) (t : TypeId) (x0 x1 x2 x3 : Value) : Prop := w.heap[b]? = some (.cells #[x0, x1, x2, x3] t (0, 0))
section
variable {w w' : World} {b : Nat} {t : TypeId} {x0 x1 x2 x3 : Value}
theorem C4.c0 (h : C4 w b t x0 x1 x2 x3) : w.cell? ⟨b, 0, none⟩ = some x0 := by simpa using cell_of_row w b 0 _ _ (0, 0) h
theorem C4.c1 (h : C4 w b t x0 x1 x2 x3) : w.cell? ⟨b, 1, none⟩ = some x1 := by simpa using cell_of_row w b 1 _ _ (0, 0) h
theorem C4.c2 (h : C4 w b t x0 x1 x2 x3) : w.cell? ⟨b, 2, none⟩ = some x2 := by simpa using cell_of_row w b 2 _ _ (0, 0) h
theorem C4.c3 (h : C4 w b t x0 x1 x2 x3) : w.cell? ⟨b, 3, none⟩ = some x3 := by simpa using cell_of_row w b 3 _ _ (0, 0) h
theorem C4.fz (h : C4 w b t x0 x1 x2 x3) (i : Nat) : w.frozen? ⟨b, i, none⟩ = false := frozen_of_row w b i _ _ h
theorem C4.all (h : C4 w b t x0 x1 x2 x3) : w.cell? ⟨b, 0, none⟩ = some x0 ∧ w.cell? ⟨b, 1, none⟩ = some x1 ∧ w.cell? ⟨b, 2, none⟩ = some x2 ∧ w.cell? ⟨b, 3, none⟩ = some x3 ∧ w.frozen? ⟨b, 0, none⟩ = false ∧ w.frozen? ⟨b, 1, none⟩ = false ∧ w.frozen? ⟨b, 2, none⟩ = false ∧ w.frozen? ⟨b, 3, none⟩ = false :=
  ⟨h.c0, h.c1, h.c2, h.c3, h.fz 0, h.fz 1, h.fz 2, h.fz 3⟩
theorem C4.set0 (h : C4 w b t x0 x1 x2 x3) (y : Value) : C4 (w.setCell ⟨b, 0, none⟩ y) b t y x1 x2 x3 := by
  have := heap_setCell_same w b 0 _ _ y h
  simpa [C4] using this
theorem C4.set1 (h : C4 w b t x0 x1 x2 x3) (y : Value) : C4 (w.setCell ⟨b, 1, none⟩ y) b t x0 y x2 x3 := by
  have := heap_setCell_same w b 1 _ _ y h
  simpa [C4] using this
theorem C4.set2 (h : C4 w b t x0 x1 x2 x3) (y : Value) : C4 (w.setCell ⟨b, 2, none⟩ y) b t x0 x1 y x3 := by
  have := heap_setCell_same w b 2 _ _ y h
  simpa [C4] using this
theorem C4.set3 (h : C4 w b t x0 x1 x2 x3) (y : Value) : C4 (w.setCell ⟨b, 3, none⟩ y) b t x0 x1 x2 y := by
  have := heap_setCell_same w b 3 _ _ y h
  simpa [C4] using this
theorem C4.other (h : C4 w b t x0 x1 x2 x3) {g o : Nat} (hg : b ≠ g) (y : Value) : C4 (w.setCell ⟨g, o, none⟩ y) b t x0 x1 x2 x3 := (Below.heap_setCell w ⟨g, o, none⟩ y b hg).trans h
theorem C4.lt (h : C4 w b t x0 x1 x2 x3) : b < w.heap.size := (Array.getElem?_eq_some_iff.1 h).1
theorem C4.kp {F : Nat → Prop} (h : C4 w b t x0 x1 x2 x3) (hk : Kp F w w') (hF : ¬ F b) : C4 w' b t x0 x1 x2 x3 := hk.at h hF
theorem C4.below (h : C4 w b t x0 x1 x2 x3) (hb : Below w.heap.size w w') : C4 w' b t x0 x1 x2 x3 := (hb.block b h.lt).trans h
theorem C4.grown {row : Option Nat} (h : C4 w b t x0 x1 x2 x3) (hg : w.grownBy w' row) (hb : some b ≠ row) : C4 w' b t x0 x1 x2 x3 := (hg.block b h.lt hb).trans h
theorem C4.new (w : World) (t : TypeId) (x0 x1 x2 x3 : Value) : C4 (w.alloc (.cells #[x0, x1, x2, x3] t)) w.heap.size t x0 x1 x2 x3 := heap_alloc_new w _
theorem C4.alloc (h : C4 w b t x0 x1 x2 x3) (o : Obj) : C4 (w.alloc o) b t x0 x1 x2 x3 := (Below.heap_alloc w o b h.lt).trans h
theorem C4.drew (h : C4 w b t x0 x1 x2 x3) : C4 w.drew b t x0 x1 x2 x3 := h
end

/-- A block of 5 cells, known whole. -/
def C5 (w : World) (b : Nat) (t : TypeId) (x0 x1 x2 x3 x4 : Value) : Prop := w.heap[b]? = some (.cells #[x0, x1, x2, x3, x4] t (0, 0))
section
variable {w w' : World} {b : Nat} {t : TypeId} {x0 x1 x2 x3 x4 : Value}
theorem C5.c0 (h : C5 w b t x0 x1 x2 x3 x4) : w.cell? ⟨b, 0, none⟩ = some x0 := by simpa using cell_of_row w b 0 _ _ (0, 0) h
theorem C5.c1 (h : C5 w b t x0 x1 x2 x3 x4) : w.cell? ⟨b, 1, none⟩ = some x1 := by simpa using cell_of_row w b 1 _ _ (0, 0) h
theorem C5.c2 (h : C5 w b t x0 x1 x2 x3 x4) : w.cell? ⟨b, 2, none⟩ = some x2 := by simpa using cell_of_row w b 2 _ _ (0, 0) h
theorem C5.c3 (h : C5 w b t x0 x1 x2 x3 x4) : w.cell? ⟨b, 3, none⟩ = some x3 := by simpa using cell_of_row w b 3 _ _ (0, 0) h
theorem C5.c4 (h : C5 w b t x0 x1 x2 x3 x4) : w.cell? ⟨b, 4, none⟩ = some x4 := by simpa using cell_of_row w b 4 _ _ (0, 0) h
theorem C5.fz (h : C5 w b t x0 x1 x2 x3 x4) (i : Nat) : w.frozen? ⟨b, i, none⟩ = false := frozen_of_row w b i _ _ h
theorem C5.all (h : C5 w b t x0 x1 x2 x3 x4) : w.cell? ⟨b, 0, none⟩ = some x0 ∧ w.cell? ⟨b, 1, none⟩ = some x1 ∧ w.cell? ⟨b, 2, none⟩ = some x2 ∧ w.cell? ⟨b, 3, none⟩ = some x3 ∧ w.cell? ⟨b, 4, none⟩ = some x4 ∧ w.frozen? ⟨b, 0, none⟩ = false ∧ w.frozen? ⟨b, 1, none⟩ = false ∧ w.frozen? ⟨b, 2, none⟩ = false ∧ w.frozen? ⟨b, 3, none⟩ = false ∧ w.frozen? ⟨b, 4, none⟩ = false :=
  ⟨h.c0, h.c1, h.c2, h.c3, h.c4, h.fz 0, h.fz 1, h.fz 2, h.fz 3, h.fz 4⟩
theorem C5.set0 (h : C5 w b t x0 x1 x2 x3 x4) (y : Value) : C5 (w.setCell ⟨b, 0, none⟩ y) b t y x1 x2 x3 x4 := by
  have := heap_setCell_same w b 0 _ _ y h
  simpa [C5] using this
theorem C5.set1 (h : C5 w b t x0 x1 x2 x3 x4) (y : Value) : C5 (w.setCell ⟨b, 1, none⟩ y) b t x0 y x2 x3 x4 := by
  have := heap_setCell_same w b 1 _ _ y h
  simpa [C5] using this
theorem C5.set2 (h : C5 w b t x0 x1 x2 x3 x4) (y : Value) : C5 (w.setCell ⟨b, 2, none⟩ y) b t x0 x1 y x3 x4 := by
  have := heap_setCell_same w b 2 _ _ y h
  simpa [C5] using this
theorem C5.set3 (h : C5 w b t x0 x1 x2 x3 x4) (y : Value) : C5 (w.setCell ⟨b, 3, none⟩ y) b t x0 x1 x2 y x4 := by
  have := heap_setCell_same w b 3 _ _ y h
  simpa [C5] using this
theorem C5.set4 (h : C5 w b t x0 x1 x2 x3 x4) (y : Value) : C5 (w.setCell ⟨b, 4, none⟩ y) b t x0 x1 x2 x3 y := by
  have := heap_setCell_same w b 4 _ _ y h
  simpa [C5] using this
theorem C5.other (h : C5 w b t x0 x1 x2 x3 x4) {g o : Nat} (hg : b ≠ g) (y : Value) : C5 (w.setCell ⟨g, o, none⟩ y) b t x0 x1 x2 x3 x4 := (Below.heap_setCell w ⟨g, o, none⟩ y b hg).trans h
theorem C5.lt (h : C5 w b t x0 x1 x2 x3 x4) : b < w.heap.size := (Array.getElem?_eq_some_iff.1 h).1
theorem C5.kp {F : Nat → Prop} (h : C5 w b t x0 x1 x2 x3 x4) (hk : Kp F w w') (hF : ¬ F b) : C5 w' b t x0 x1 x2 x3 x4 := hk.at h hF
theorem C5.below (h : C5 w b t x0 x1 x2 x3 x4) (hb : Below w.heap.size w w') : C5 w' b t x0 x1 x2 x3 x4 := (hb.block b h.lt).trans h
theorem C5.grown {row : Option Nat} (h : C5 w b t x0 x1 x2 x3 x4) (hg : w.grownBy w' row) (hb : some b ≠ row) : C5 w' b t x0 x1 x2 x3 x4 := (hg.block b h.lt hb).trans h
theorem C5.new (w : World) (t : TypeId) (x0 x1 x2 x3 x4 : Value) : C5 (w.alloc (.cells #[x0, x1, x2, x3, x4] t)) w.heap.size t x0 x1 x2 x3 x4 := heap_alloc_new w _
theorem C5.alloc (h : C5 w b t x0 x1 x2 x3 x4) (o : Obj) : C5 (w.alloc o) b t x0 x1 x2 x3 x4 := (Below.heap_alloc w o b h.lt).trans h
theorem C5.drew (h : C5 w b t x0 x1 x2 x3 x4) : C5 w.drew b t x0 x1 x2 x3 x4 := h
end

/-- A block of 6 cells, known whole. -/
def C6 (w : World) (b : Nat) (t : TypeId) (x0 x1 x2 x3 x4 x5 : Value) : Prop := w.heap[b]? = some (.cells #[x0, x1, x2, x3, x4, x5] t (0, 0))
section
variable {w w' : World} {b : Nat} {t : TypeId} {x0 x1 x2 x3 x4 x5 : Value}
theorem C6.c0 (h : C6 w b t x0 x1 x2 x3 x4 x5) : w.cell? ⟨b, 0, none⟩ = some x0 := by simpa using cell_of_row w b 0 _ _ (0, 0) h
theorem C6.c1 (h : C6 w b t x0 x1 x2 x3 x4 x5) : w.cell? ⟨b, 1, none⟩ = some x1 := by simpa using cell_of_row w b 1 _ _ (0, 0) h
theorem C6.c2 (h : C6 w b t x0 x1 x2 x3 x4 x5) : w.cell? ⟨b, 2, none⟩ = some x2 := by simpa using cell_of_row w b 2 _ _ (0, 0) h
theorem C6.c3 (h : C6 w b t x0 x1 x2 x3 x4 x5) : w.cell? ⟨b, 3, none⟩ = some x3 := by simpa using cell_of_row w b 3 _ _ (0, 0) h
theorem C6.c4 (h : C6 w b t x0 x1 x2 x3 x4 x5) : w.cell? ⟨b, 4, none⟩ = some x4 := by simpa using cell_of_row w b 4 _ _ (0, 0) h
theorem C6.c5 (h : C6 w b t x0 x1 x2 x3 x4 x5) : w.cell? ⟨b, 5, none⟩ = some x5 := by simpa using cell_of_row w b 5 _ _ (0, 0) h
theorem C6.fz (h : C6 w b t x0 x1 x2 x3 x4 x5) (i : Nat) : w.frozen? ⟨b, i, none⟩ = false := frozen_of_row w b i _ _ h
theorem C6.all (h : C6 w b t x0 x1 x2 x3 x4 x5) : w.cell? ⟨b, 0, none⟩ = some x0 ∧ w.cell? ⟨b, 1, none⟩ = some x1 ∧ w.cell? ⟨b, 2, none⟩ = some x2 ∧ w.cell? ⟨b, 3, none⟩ = some x3 ∧ w.cell? ⟨b, 4, none⟩ = some x4 ∧ w.cell? ⟨b, 5, none⟩ = some x5 ∧ w.frozen? ⟨b, 0, none⟩ = false ∧ w.frozen? ⟨b, 1, none⟩ = false ∧ w.frozen? ⟨b, 2, none⟩ = false ∧ w.frozen? ⟨b, 3, none⟩ = false ∧ w.frozen? ⟨b, 4, none⟩ = false ∧ w.frozen? ⟨b, 5, none⟩ = false :=
  ⟨h.c0, h.c1, h.c2, h.c3, h.c4, h.c5, h.fz 0, h.fz 1, h.fz 2, h.fz 3, h.fz 4, h.fz 5⟩
theorem C6.set0 (h : C6 w b t x0 x1 x2 x3 x4 x5) (y : Value) : C6 (w.setCell ⟨b, 0, none⟩ y) b t y x1 x2 x3 x4 x5 := by
  have := heap_setCell_same w b 0 _ _ y h
  simpa [C6] using this
theorem C6.set1 (h : C6 w b t x0 x1 x2 x3 x4 x5) (y : Value) : C6 (w.setCell ⟨b, 1, none⟩ y) b t x0 y x2 x3 x4 x5 := by
  have := heap_setCell_same w b 1 _ _ y h
  simpa [C6] using this
theorem C6.set2 (h : C6 w b t x0 x1 x2 x3 x4 x5) (y : Value) : C6 (w.setCell ⟨b, 2, none⟩ y) b t x0 x1 y x3 x4 x5 := by
  have := heap_setCell_same w b 2 _ _ y h
  simpa [C6] using this
theorem C6.set3 (h : C6 w b t x0 x1 x2 x3 x4 x5) (y : Value) : C6 (w.setCell ⟨b, 3, none⟩ y) b t x0 x1 x2 y x4 x5 := by
  have := heap_setCell_same w b 3 _ _ y h
  simpa [C6] using this
theorem C6.set4 (h : C6 w b t x0 x1 x2 x3 x4 x5) (y : Value) : C6 (w.setCell ⟨b, 4, none⟩ y) b t x0 x1 x2 x3 y x5 := by
  have := heap_setCell_same w b 4 _ _ y h
  simpa [C6] using this
theorem C6.set5 (h : C6 w b t x0 x1 x2 x3 x4 x5) (y : Value) : C6 (w.setCell ⟨b, 5, none⟩ y) b t x0 x1 x2 x3 x4 y := by
  have := heap_setCell_same w b 5 _ _ y h
  simpa [C6] using this
theorem C6.other (h : C6 w b t x0 x1 x2 x3 x4 x5) {g o : Nat} (hg : b ≠ g) (y : Value) : C6 (w.setCell ⟨g, o, none⟩ y) b t x0 x1 x2 x3 x4 x5 := (Below.heap_setCell w ⟨g, o, none⟩ y b hg).trans h
theorem C6.lt (h : C6 w b t x0 x1 x2 x3 x4 x5) : b < w.heap.size := (Array.getElem?_eq_some_iff.1 h).1
theorem C6.kp {F : Nat → Prop} (h : C6 w b t x0 x1 x2 x3 x4 x5) (hk : Kp F w w') (hF : ¬ F b) : C6 w' b t x0 x1 x2 x3 x4 x5 := hk.at h hF
theorem C6.below (h : C6 w b t x0 x1 x2 x3 x4 x5) (hb : Below w.heap.size w w') : C6 w' b t x0 x1 x2 x3 x4 x5 := (hb.block b h.lt).trans h
theorem C6.grown {row : Option Nat} (h : C6 w b t x0 x1 x2 x3 x4 x5) (hg : w.grownBy w' row) (hb : some b ≠ row) : C6 w' b t x0 x1 x2 x3 x4 x5 := (hg.block b h.lt hb).trans h
theorem C6.new (w : World) (t : TypeId) (x0 x1 x2 x3 x4 x5 : Value) : C6 (w.alloc (.cells #[x0, x1, x2, x3, x4, x5] t)) w.heap.size t x0 x1 x2 x3 x4 x5 := heap_alloc_new w _
theorem C6.alloc (h : C6 w b t x0 x1 x2 x3 x4 x5) (o : Obj) : C6 (w.alloc o) b t x0 x1 x2 x3 x4 x5 := (Below.heap_alloc w o b h.lt).trans h
theorem C6.drew (h : C6 w b t x0 x1 x2 x3 x4 x5) : C6 w.drew b t x0 x1 x2 x3 x4 x5 := h
end

end Go.Proofs.Ytgkhbnkbhcginaa

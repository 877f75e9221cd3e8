/- Vectors in cells: what a vector is, plainly. Of the dump nothing. -/
import Derived.Test.YtgkhbnkbhcginaaCount04
namespace Go.Proofs.Ytgkhbnkbhcginaa

abbrev Vs := List (Int × Int × ByteArray)
/-- A vector: how many values, its trunk, its tail. -/
structure Vc where
  n : Nat
  root : Nat
  tail : Nat
/-- A cell with these values, and no others. -/
def Leaf (M : Cells) (x : Nat) (vs : Vs) : Prop := ∃ c r, M x = some (c, r) ∧ c.vals = vs ∧ c.kids = []
/-- The k-th 32 of a list. -/
def chunk (l : Vs) (k : Nat) : Vs := (l.drop (32 * k)).take 32
theorem chunk_at (l : Vs) (i : Nat) : (chunk l (i / 32))[i % 32]? = l[i]? := by
  unfold chunk
  rw [List.getElem?_take_of_lt (Nat.mod_lt _ (by omega)), List.getElem?_drop, Nat.div_add_mod]
theorem chunk_length (l : Vs) (k : Nat) : (chunk l k).length = min 32 (l.length - 32 * k) := by
  unfold chunk
  rw [List.length_take, List.length_drop]
/-- The vector v has these values. -/
structure VecIs (M : Cells) (v : Vc) (l : Vs) : Prop where
  n : v.n = l.length
  le : l.length ≤ 1024
  nil : l = [] → v.root = 0 ∧ v.tail = 0
  tl : l ≠ [] → Leaf M v.tail (chunk l ((l.length - 1) / 32))
  r0 : l.length ≤ 32 → v.root = 0
  rt : 32 < l.length → ∃ c r, M v.root = some (c, r) ∧ c.vals = [] ∧ c.kids.length = (l.length - 1) / 32 ∧ ∀ k x, c.kids[k]? = some x → Leaf M x (chunk l k)
theorem VecIs.empty (M : Cells) : VecIs M ⟨0, 0, 0⟩ [] := ⟨rfl, Nat.zero_le _, fun _ => ⟨rfl, rfl⟩, fun h => absurd rfl h, fun _ => rfl, fun h => by simp at h⟩

end Go.Proofs.Ytgkhbnkbhcginaa

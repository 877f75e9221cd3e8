/- Worlds that have grown: new blocks behind the old ones, of the old ones nothing has turned; and the law by which a region that draws its order is walked once, if its operations only read old memory and its calls only let the world grow. -/
import Derived.WalkKit
import Derived.ProofKit
import Derived.BigQuiet
import Derived.Maps.AppendAt
import Derived.Maps.Range
namespace Go.Proofs.Ytgcnnmhjadfgkaa
open Go.RowKit

/-- w' is w with new blocks behind it: every old block, and what is frozen, is as it was. -/
structure Gw (w w' : World) : Prop where
  below : Below w.heap.size w w'
  frozen : ∀ a, w'.frozen? a = w.frozen? a

theorem Gw.refl (w : World) : Gw w w := ⟨Below.refl _ _, fun _ => rfl⟩
theorem Gw.trans {a b c : World} (h : Gw a b) (k : Gw b c) : Gw a c :=
  ⟨h.below.trans (k.below.mono h.below.size), fun x => (k.frozen x).trans (h.frozen x)⟩
theorem Gw.alloc {a w : World} (h : Gw a w) (c : Array Value) (t : TypeId) : Gw a (w.alloc (.cells c t)) :=
  ⟨h.below.alloc h.below.size _, fun x => (frozen?_alloc_cells _ _ _ x).trans (h.frozen x)⟩
theorem Gw.setCell {a w : World} (h : Gw a w) {p : Addr} (hp : a.heap.size ≤ p.block) (v : Value) : Gw a (w.setCell p v) :=
  ⟨h.below.setCell hp v, fun x => (World.frozen?_setCell _ _ _ _).trans (h.frozen x)⟩
theorem Gw.drew {a w : World} (h : Gw a w) : Gw a w.drew := ⟨h.below.drew, h.frozen⟩
theorem Gw.drewN {a w : World} (h : Gw a w) (n : Nat) : Gw a (w.drewN n) := ⟨⟨h.below.os, h.below.tape, h.below.output, h.below.size, h.below.block⟩, h.frozen⟩
theorem Gw.frame {w w' : World} (h : Gw w w') (may : MemPlace → Prop) : w.keptBut w' may := h.below.frame may
theorem Gw.cell {w w' : World} (h : Gw w w') {b o : Nat} (hb : b < w.heap.size) : w'.cell? ⟨b, o, none⟩ = w.cell? ⟨b, o, none⟩ := h.below.cell (p := ⟨b, o, none⟩) hb
theorem Gw.size {w w' : World} (h : Gw w w') : w.heap.size ≤ w'.heap.size := h.below.size
/-- Two boxed structs of three fields, read in a grown world. -/
theorem Gw.two3 {w w' : World} {a0 a1 a2 b0 b1 b2 : Value} {t t' : TypeId} (h : Gw ((w.alloc (.cells #[a0, a1, a2] t)).alloc (.cells #[b0, b1, b2] t')) w') :
    w'.cell? ⟨w.heap.size, 0, none⟩ = some a0 ∧ w'.cell? ⟨w.heap.size, 1, none⟩ = some a1 ∧ w'.cell? ⟨w.heap.size, 2, none⟩ = some a2 ∧
    w'.cell? ⟨w.heap.size + 1, 0, none⟩ = some b0 ∧ w'.cell? ⟨w.heap.size + 1, 1, none⟩ = some b1 ∧ w'.cell? ⟨w.heap.size + 1, 2, none⟩ = some b2 := by
  refine ⟨?_, ?_, ?_, ?_, ?_, ?_⟩ <;> (rw [h.cell (by simp <;> omega)]; simp [go_sem])

/-- The worlds that have grown out of w. -/
structure Gr (w : World) where
  at' : World
  grown : Gw w at'
instance (w : World) : Nonempty (Gr w) := ⟨⟨w, Gw.refl w⟩⟩

theorem Gr.cell {w : World} {b o : Nat} {v : Value} (hc : w.cell? ⟨b, o, none⟩ = some v) (hb : b < w.heap.size) (g : Gr w) : g.at'.cell? ⟨b, o, none⟩ = some v := by
  rw [g.grown.cell hb, hc]

/-- A boxed struct of three fields, read in a grown world. -/
theorem Gr.box3 (w : World) (c0 c1 c2 : Value) (t : TypeId) : (∀ g : Gr (w.alloc (.cells #[c0, c1, c2] t)), g.at'.cell? ⟨w.heap.size, 0, none⟩ = some c0) ∧ (∀ g : Gr (w.alloc (.cells #[c0, c1, c2] t)), g.at'.cell? ⟨w.heap.size, 1, none⟩ = some c1) ∧ (∀ g : Gr (w.alloc (.cells #[c0, c1, c2] t)), g.at'.cell? ⟨w.heap.size, 2, none⟩ = some c2) :=
  ⟨Gr.cell (by simp [go_sem]) (by simp), Gr.cell (by simp [go_sem]) (by simp), Gr.cell (by simp [go_sem]) (by simp)⟩

/-- Two boxed structs of three fields, in all worlds that grow out of one that has grown. -/
theorem Gr.two3 {w w1 : World} {a0 a1 a2 b0 b1 b2 : Value} {t t' : TypeId} (h : Gw ((w.alloc (.cells #[a0, a1, a2] t)).alloc (.cells #[b0, b1, b2] t')) w1) :
    (∀ g : Gr w1, g.at'.cell? ⟨w.heap.size, 0, none⟩ = some a0) ∧ (∀ g : Gr w1, g.at'.cell? ⟨w.heap.size, 1, none⟩ = some a1) ∧ (∀ g : Gr w1, g.at'.cell? ⟨w.heap.size, 2, none⟩ = some a2) ∧
    (∀ g : Gr w1, g.at'.cell? ⟨w.heap.size + 1, 0, none⟩ = some b0) ∧ (∀ g : Gr w1, g.at'.cell? ⟨w.heap.size + 1, 1, none⟩ = some b1) ∧ (∀ g : Gr w1, g.at'.cell? ⟨w.heap.size + 1, 2, none⟩ = some b2) :=
  ⟨fun g => (h.trans g.grown).two3.1, fun g => (h.trans g.grown).two3.2.1, fun g => (h.trans g.grown).two3.2.2.1, fun g => (h.trans g.grown).two3.2.2.2.1, fun g => (h.trans g.grown).two3.2.2.2.2.1, fun g => (h.trans g.grown).two3.2.2.2.2.2⟩

/-- A callee's contract, met in a grown world. -/
theorem Gr.calls {P : Program} {f : FuncId} {args : Array Value} {w : World} {v : Value} (g : Gr w)
    (h : Calls P f args g.at' fun e w' => e = .returned v ∧ Gw g.at' w') : Calls P f args g.at' fun e w'' => e = .returned v ∧ ∃ g' : Gr w, w'' = g'.at' :=
  h.mono fun _ _ ⟨he, hm⟩ => ⟨he, ⟨_, g.grown.trans hm⟩, rfl⟩

/-- A region that draws its order, whose operations only read and whose callees let the world grow: one walk, in the order of the text. -/
theorem region_grown {P : Program} {id : Nat} {Q : Exit → Act → World → Prop} {a : Act} {w : World} {l : List Oper} (hm : P.follows .mixedOrders = true) (hB : Region.lexB .any l.toArray = true)
    (h : wpQuiet P l.toArray (fun w' => ∃ g : Gr w, w' = g.at') (fun a' => ∀ w', (∃ g : Gr w, w' = g.at') → Q .normal a' w') l a) : (Code.region id l.toArray true).wp P Q a w :=
  wp_region_quiet (C := fun w' => ∃ g : Gr w, w' = g.at') hm hB ⟨⟨w.drew, (Gw.refl w).drew⟩, rfl⟩ (by simpa using h)

/-- Three boxed structs of three fields. -/
theorem Gw.three3 {w w' : World} {a0 a1 a2 b0 b1 b2 c0 c1 c2 : Value} {t t' t'' : TypeId} (h : Gw (((w.alloc (.cells #[a0, a1, a2] t)).alloc (.cells #[b0, b1, b2] t')).alloc (.cells #[c0, c1, c2] t'')) w') :
    w'.cell? ⟨w.heap.size, 0, none⟩ = some a0 ∧ w'.cell? ⟨w.heap.size, 1, none⟩ = some a1 ∧ w'.cell? ⟨w.heap.size, 2, none⟩ = some a2 ∧
    w'.cell? ⟨w.heap.size + 1, 0, none⟩ = some b0 ∧ w'.cell? ⟨w.heap.size + 1, 1, none⟩ = some b1 ∧ w'.cell? ⟨w.heap.size + 1, 2, none⟩ = some b2 ∧
    w'.cell? ⟨w.heap.size + 1 + 1, 0, none⟩ = some c0 ∧ w'.cell? ⟨w.heap.size + 1 + 1, 1, none⟩ = some c1 ∧ w'.cell? ⟨w.heap.size + 1 + 1, 2, none⟩ = some c2 := by
  refine ⟨?_, ?_, ?_, ?_, ?_, ?_, ?_, ?_, ?_⟩ <;> (rw [h.cell (by simp <;> omega)]; simp [go_sem])
theorem Gr.three3 {w w1 : World} {a0 a1 a2 b0 b1 b2 c0 c1 c2 : Value} {t t' t'' : TypeId} (h : Gw (((w.alloc (.cells #[a0, a1, a2] t)).alloc (.cells #[b0, b1, b2] t')).alloc (.cells #[c0, c1, c2] t'')) w1) :
    (∀ g : Gr w1, g.at'.cell? ⟨w.heap.size, 0, none⟩ = some a0) ∧ (∀ g : Gr w1, g.at'.cell? ⟨w.heap.size, 1, none⟩ = some a1) ∧ (∀ g : Gr w1, g.at'.cell? ⟨w.heap.size, 2, none⟩ = some a2) ∧
    (∀ g : Gr w1, g.at'.cell? ⟨w.heap.size + 1, 0, none⟩ = some b0) ∧ (∀ g : Gr w1, g.at'.cell? ⟨w.heap.size + 1, 1, none⟩ = some b1) ∧ (∀ g : Gr w1, g.at'.cell? ⟨w.heap.size + 1, 2, none⟩ = some b2) ∧
    (∀ g : Gr w1, g.at'.cell? ⟨w.heap.size + 1 + 1, 0, none⟩ = some c0) ∧ (∀ g : Gr w1, g.at'.cell? ⟨w.heap.size + 1 + 1, 1, none⟩ = some c1) ∧ (∀ g : Gr w1, g.at'.cell? ⟨w.heap.size + 1 + 1, 2, none⟩ = some c2) := by
  have H := fun g : Gr w1 => (h.trans g.grown).three3
  exact ⟨fun g => (H g).1, fun g => (H g).2.1, fun g => (H g).2.2.1, fun g => (H g).2.2.2.1, fun g => (H g).2.2.2.2.1, fun g => (H g).2.2.2.2.2.1, fun g => (H g).2.2.2.2.2.2.1, fun g => (H g).2.2.2.2.2.2.2.1, fun g => (H g).2.2.2.2.2.2.2.2⟩

theorem grownBy_setCell (w : World) (b o : Nat) (u : Value) : w.grownBy (w.setCell ⟨b, o, none⟩ u) (some b) :=
  ⟨rfl, rfl, rfl, by simp [World.setCell], fun k _ hk => Below.heap_setCell w ⟨b, o, none⟩ u k (fun e => hk (by rw [e]))⟩
theorem grownBy_refl (w : World) (row : Option Nat) : w.grownBy w row := ⟨rfl, rfl, rfl, Nat.le_refl _, fun _ _ _ => rfl⟩
/-- A block that changed, seen from a world in which it was not there. -/
theorem grownBy_new {a b c : World} {row : Option Nat} {g : Nat} (h : a.grownBy b row) (k : b.grownBy c (some g)) (hg : a.heap.size ≤ g) : a.grownBy c row :=
  h.andThen k fun j e => .inl (by cases e; exact hg)
theorem grownBy_below {a b : World} (h : Below a.heap.size a b) (row : Option Nat) : a.grownBy b row := ⟨h.os, h.tape, h.output, h.size, fun k hk _ => h.block k hk⟩
theorem grownBy_then {a b c : World} {row : Option Nat} (h : a.grownBy b row) (k : Below b.heap.size b c) : a.grownBy c row := h.trans (grownBy_below k row)
theorem below_grown {a b c : World} {g : Nat} (h : Below a.heap.size a b) (k : b.grownBy c (some g)) (hg : a.heap.size ≤ g) : Below a.heap.size a c :=
  ⟨k.os.trans h.os, k.tape.trans h.tape, k.output.trans h.output, Nat.le_trans h.size k.size, fun i hi => (k.block i (Nat.lt_of_lt_of_le hi h.size) (fun e => by injection e with e; omega)).trans (h.block i hi)⟩

theorem ret_int {k : IntKind} {a b : Int} (h : a = b) : Ending.returned (.int k a) = .returned (.int k b) := by rw [h]
theorem ret_bool {a b : Bool} (h : a = b) : Ending.returned (.bool a) = .returned (.bool b) := by rw [h]

end Go.Proofs.Ytgcnnmhjadfgkaa

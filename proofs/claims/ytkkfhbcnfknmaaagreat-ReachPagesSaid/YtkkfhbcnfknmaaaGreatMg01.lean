/- Several texts in one. -/
import Derived.WalkKit
import Derived.ProofKit
import Derived.BigQuiet
import Derived.Maps.AppendAt
import Derived.Maps.Range
import Derived.Laws.OwnMore
import Derived.OwnWalk
import Derived.Deep.RegionLaw
import Derived.Lib.Hide
import Derived.Lib.SliceRun
import Derived.Laws.IdiomCopy
import Derived.Test.YtkkfhbcnfknmaaaGreatProg
import Derived.OpenShut
import Derived.ShutString
import Derived.Lib.SmallJoins
import Derived.SizedLaws
import Derived.Lib.AppendZerosOnto
import Derived.Lib.Overlaps
import Derived.Laws.Externs
import Derived.Shelf.Spec.SlicesInsert
import GoSem.Claim
import Derived.Laws.StructEq
namespace Go.Proofs.YtkkfhbcnfknmaaaGreat
open Go.RowKit

structure Gw (w w' : World) : Prop where
  below : Below w.heap.size w w'
  frozen : ∀ a, w'.frozen? a = w.frozen? a

theorem Gw.refl (w : World) : Gw w w := ⟨Below.refl _ _, fun _ => rfl⟩
theorem Gw.trans {a b c : World} (h : Gw a b) (k : Gw b c) : Gw a c :=
  ⟨h.below.trans (k.below.mono h.below.size), fun x => (k.frozen x).trans (h.frozen x)⟩
theorem Gw.alloc {a w : World} (h : Gw a w) (c : Array Value) (t : TypeId) : Gw a (w.alloc (.cells c t)) :=
  ⟨h.below.alloc h.below.size _, fun x => (frozen?_alloc_cells _ _ _ x).trans (h.frozen x)⟩
theorem Gw.setCell {a w : World} (h : Gw a w) {p : Addr} (hp : a.heap.size ≤ p.block) (v : Value) : Gw a (w.setCell p v) :=
  ⟨h.below.setCell hp v, fun x => (World.frozen?_setCell _ _ _ _).trans (h.frozen x)⟩
theorem Gw.drew {a w : World} (h : Gw a w) : Gw a w.drew := ⟨h.below.drew, h.frozen⟩
theorem Gw.drewN {a w : World} (h : Gw a w) (n : Nat) : Gw a (w.drewN n) := ⟨⟨h.below.os, h.below.tape, h.below.output, h.below.size, h.below.block⟩, h.frozen⟩
theorem Gw.frame {w w' : World} (h : Gw w w') (may : MemPlace → Prop) : w.keptBut w' may := h.below.frame may
theorem Gw.cell {w w' : World} (h : Gw w w') {b o : Nat} (hb : b < w.heap.size) : w'.cell? ⟨b, o, none⟩ = w.cell? ⟨b, o, none⟩ := h.below.cell (p := ⟨b, o, none⟩) hb
theorem Gw.size {w w' : World} (h : Gw w w') : w.heap.size ≤ w'.heap.size := h.below.size
theorem Gw.two3 {w w' : World} {a0 a1 a2 b0 b1 b2 : Value} {t t' : TypeId} (h : Gw ((w.alloc (.cells #[a0, a1, a2] t)).alloc (.cells #[b0, b1, b2] t')) w') :
    w'.cell? ⟨w.heap.size, 0, none⟩ = some a0 ∧ w'.cell? ⟨w.heap.size, 1, none⟩ = some a1 ∧ w'.cell? ⟨w.heap.size, 2, none⟩ = some a2 ∧
    w'.cell? ⟨w.heap.size + 1, 0, none⟩ = some b0 ∧ w'.cell? ⟨w.heap.size + 1, 1, none⟩ = some b1 ∧ w'.cell? ⟨w.heap.size + 1, 2, none⟩ = some b2 := by
  refine ⟨?_, ?_, ?_, ?_, ?_, ?_⟩ <;> (rw [h.cell (by simp <;> omega)]; simp [go_sem])

structure Gr (w : World) where
  at' : World
  grown : Gw w at'
instance (w : World) : Nonempty (Gr w) := ⟨⟨w, Gw.refl w⟩⟩

theorem Gr.cell {w : World} {b o : Nat} {v : Value} (hc : w.cell? ⟨b, o, none⟩ = some v) (hb : b < w.heap.size) (g : Gr w) : g.at'.cell? ⟨b, o, none⟩ = some v := by
  rw [g.grown.cell hb, hc]

theorem Gr.box3 (w : World) (c0 c1 c2 : Value) (t : TypeId) : (∀ g : Gr (w.alloc (.cells #[c0, c1, c2] t)), g.at'.cell? ⟨w.heap.size, 0, none⟩ = some c0) ∧ (∀ g : Gr (w.alloc (.cells #[c0, c1, c2] t)), g.at'.cell? ⟨w.heap.size, 1, none⟩ = some c1) ∧ (∀ g : Gr (w.alloc (.cells #[c0, c1, c2] t)), g.at'.cell? ⟨w.heap.size, 2, none⟩ = some c2) :=
  ⟨Gr.cell (by simp [go_sem]) (by simp), Gr.cell (by simp [go_sem]) (by simp), Gr.cell (by simp [go_sem]) (by simp)⟩

theorem Gr.two3 {w w1 : World} {a0 a1 a2 b0 b1 b2 : Value} {t t' : TypeId} (h : Gw ((w.alloc (.cells #[a0, a1, a2] t)).alloc (.cells #[b0, b1, b2] t')) w1) :
    (∀ g : Gr w1, g.at'.cell? ⟨w.heap.size, 0, none⟩ = some a0) ∧ (∀ g : Gr w1, g.at'.cell? ⟨w.heap.size, 1, none⟩ = some a1) ∧ (∀ g : Gr w1, g.at'.cell? ⟨w.heap.size, 2, none⟩ = some a2) ∧
    (∀ g : Gr w1, g.at'.cell? ⟨w.heap.size + 1, 0, none⟩ = some b0) ∧ (∀ g : Gr w1, g.at'.cell? ⟨w.heap.size + 1, 1, none⟩ = some b1) ∧ (∀ g : Gr w1, g.at'.cell? ⟨w.heap.size + 1, 2, none⟩ = some b2) :=
  ⟨fun g => (h.trans g.grown).two3.1, fun g => (h.trans g.grown).two3.2.1, fun g => (h.trans g.grown).two3.2.2.1, fun g => (h.trans g.grown).two3.2.2.2.1, fun g => (h.trans g.grown).two3.2.2.2.2.1, fun g => (h.trans g.grown).two3.2.2.2.2.2⟩

theorem Gr.calls {P : Program} {f : FuncId} {args : Array Value} {w : World} {v : Value} (g : Gr w)
    (h : Calls P f args g.at' fun e w' => e = .returned v ∧ Gw g.at' w') : Calls P f args g.at' fun e w'' => e = .returned v ∧ ∃ g' : Gr w, w'' = g'.at' :=
  h.mono fun _ _ ⟨he, hm⟩ => ⟨he, ⟨_, g.grown.trans hm⟩, rfl⟩

theorem grownBy_setCell (w : World) (b o : Nat) (u : Value) : w.grownBy (w.setCell ⟨b, o, none⟩ u) (some b) :=
  ⟨rfl, rfl, rfl, by simp [World.setCell], fun k _ hk => Below.heap_setCell w ⟨b, o, none⟩ u k (fun e => hk (by rw [e]))⟩
theorem grownBy_below {a b : World} (h : Below a.heap.size a b) (row : Option Nat) : a.grownBy b row := ⟨h.os, h.tape, h.output, h.size, fun k hk _ => h.block k hk⟩
theorem grownBy_then {a b c : World} {row : Option Nat} (h : a.grownBy b row) (k : Below b.heap.size b c) : a.grownBy c row := h.trans (grownBy_below k row)
theorem ret_int {k : IntKind} {a b : Int} (h : a = b) : Ending.returned (.int k a) = .returned (.int k b) := by rw [h]
theorem ret_bool {a b : Bool} (h : a = b) : Ending.returned (.bool a) = .returned (.bool b) := by rw [h]

end Go.Proofs.YtkkfhbcnfknmaaaGreat

namespace Go.Proofs.YtkkfhbcnfknmaaaGreat
open Go.RowKit

def Rd (w : World) (v : Value) (n : Nat) (xs : List Value) : Prop :=
  (v = .slice none 0 0 ∧ n = 0 ∧ xs = []) ∨ ∃ (b o c : Nat), v = .slice (some ⟨b, o, none⟩) n c ∧ n ≤ c ∧ ∀ j u, xs[j]? = some u → w.cell? ⟨b, o + j, none⟩ = some u

structure Kp (F : Nat → Prop) (w w' : World) : Prop where
  os : w'.os = w.os
  tape : w'.tape = w.tape
  output : w'.output = w.output
  size : w.heap.size ≤ w'.heap.size
  block : ∀ k, k < w.heap.size → ¬ F k → w'.heap[k]? = w.heap[k]?

theorem add_none (b o j : Nat) : (⟨b, o, none⟩ : Addr).add j = ⟨b, o + j, none⟩ := by unfold Addr.add; split <;> simp_all

section
variable {F G : Nat → Prop} {w w' w'' : World} {v : Value} {n : Nat} {xs : List Value}
theorem Kp.refl (F : Nat → Prop) (w : World) : Kp F w w := ⟨rfl, rfl, rfl, Nat.le_refl _, fun _ _ _ => rfl⟩
theorem Kp.trans (h : Kp F w w') (k : Kp G w' w'') (hG : ∀ b, G b → F b ∨ w.heap.size ≤ b) : Kp F w w'' :=
  ⟨k.os.trans h.os, k.tape.trans h.tape, k.output.trans h.output, Nat.le_trans h.size k.size, fun b hb hF =>
    (k.block b (Nat.lt_of_lt_of_le hb h.size) (fun g => by rcases hG b g with g | g <;> first | exact hF g | omega)).trans (h.block b hb hF)⟩
theorem Kp.mono (h : Kp F w w') (hF : ∀ b, F b → b < w.heap.size → G b) : Kp G w w' := ⟨h.os, h.tape, h.output, h.size, fun b hb hg => h.block b hb fun f => hg (hF b f hb)⟩
theorem Kp.of_below (h : Below w.heap.size w w') (F : Nat → Prop) : Kp F w w' := ⟨h.os, h.tape, h.output, h.size, fun b hb _ => h.block b hb⟩
theorem Kp.of_grown {row : Option Nat} (h : w.grownBy w' row) (hF : ∀ k, row = some k → F k ∨ w.heap.size ≤ k) : Kp F w w' :=
  ⟨h.os, h.tape, h.output, h.size, fun b hb hf => h.block b hb fun e => by rcases hF b e.symm with g | g <;> first | exact hf g | omega⟩
theorem Kp.below (h : Kp F w w') (hF : ∀ b, F b → w.heap.size ≤ b) : Below w.heap.size w w' := ⟨h.os, h.tape, h.output, h.size, fun b hb => h.block b hb fun f => by have := hF b f; omega⟩
theorem Kp.alloc (h : Kp F w w') (o : Obj) : Kp F w (w'.alloc o) := h.trans (Kp.of_below ((Below.refl _ _).alloc (Nat.le_refl _) o) (fun _ => False)) (fun _ h => h.elim)
theorem Kp.drew (h : Kp F w w') : Kp F w w'.drew := ⟨h.os, h.tape, h.output, h.size, h.block⟩
theorem Kp.setCell (h : Kp F w w') {b o : Nat} (hb : F b ∨ w.heap.size ≤ b) (u : Value) : Kp F w (w'.setCell ⟨b, o, none⟩ u) :=
  h.trans (G := fun k => k = b) ⟨rfl, rfl, rfl, by simp [World.setCell], fun k _ hk => Below.heap_setCell w' ⟨b, o, none⟩ u k (fun e => hk e)⟩ (fun k e => e ▸ hb)
theorem Kp.one (w : World) (b o : Nat) (u : Value) : Kp (fun k => k = b) w (w.setCell ⟨b, o, none⟩ u) := (Kp.refl (fun k => k = b) w).setCell (.inl rfl) u
theorem Kp.at (h : Kp F w w') {b : Nat} {o : Obj} (hb : w.heap[b]? = some o) (hF : ¬ F b) : w'.heap[b]? = some o := (h.block b (Array.getElem?_eq_some_iff.1 hb).1 hF).trans hb
theorem Kp.cell (h : Kp F w w') {b o : Nat} {u : Value} (hb : w.cell? ⟨b, o, none⟩ = some u) (hF : ¬ F b) : w'.cell? ⟨b, o, none⟩ = some u :=
  (World.cell?_of_block (h.block b (World.block_lt_of_cell? w ⟨b, o, none⟩ hb) hF)).trans hb
theorem Kp.own (h : Kp F w w') {base e size : Nat} (ho : w.ownsRow base e size v n xs) (hF : ∀ k, v.ownBlock = some k → ¬ F k) : w'.ownsRow base e size v n xs := by
  refine ⟨ho.1, ?_⟩
  rcases ho.2 with hn | ⟨g, cap, cur, rfl, hb, hg, rest⟩
  · exact .inl hn
  · exact .inr ⟨g, cap, cur, rfl, hb, h.at hg (hF g rfl), rest⟩
theorem Kp.rd (h : Kp F w w') (hr : Rd w v n xs) (hF : ∀ k, v.ownBlock = some k → ¬ F k) : Rd w' v n xs := by
  rcases hr with hn | ⟨b, o, c, rfl, hc, hx⟩
  · exact .inl hn
  · exact .inr ⟨b, o, c, rfl, hc, fun j u hu => h.cell (hx j u hu) (hF b rfl)⟩

theorem Rd.below (h : Rd w v n xs) (hb : Below w.heap.size w w') : Rd w' v n xs := (Kp.of_below hb (fun _ => False)).rd h (fun _ _ => id)
theorem Rd.alloc (h : Rd w v n xs) (o : Obj) : Rd (w.alloc o) v n xs := h.below ((Below.refl _ _).alloc (Nat.le_refl _) o)
theorem Rd.drew (h : Rd w v n xs) : Rd w.drew v n xs := h
theorem Rd.nil (w : World) : Rd w (.slice none 0 0) 0 [] := .inl ⟨rfl, rfl, rfl⟩
theorem Rd.form (h : Rd w v n xs) : ∃ A c, v = .slice A n c ∧ n ≤ c := by
  rcases h with ⟨rfl, rfl, _⟩ | ⟨b, o, c, rfl, hc, _⟩
  · exact ⟨none, 0, rfl, Nat.le_refl _⟩
  · exact ⟨_, c, rfl, hc⟩
theorem Rd.at (h : Rd w v n xs) {j : Nat} {u : Value} (hj : xs[j]? = some u) : ∃ b o c, v = .slice (some ⟨b, o, none⟩) n c ∧ n ≤ c ∧ w.cell? ⟨b, o + j, none⟩ = some u := by
  rcases h with ⟨_, _, rfl⟩ | ⟨b, o, c, rfl, hc, hx⟩
  · simp at hj
  · exact ⟨b, o, c, rfl, hc, hx j u hj⟩
theorem Rd.of_own {base e size : Nat} (h : w.ownsRow base e size v n xs) : Rd w v n xs := by
  rcases h.2 with ⟨rfl, hn⟩ | ⟨g, cap, cur, rfl, _, hg, hc, _⟩
  · have hx : xs = [] := List.eq_nil_of_length_eq_zero (by rw [h.1, hn]; simp)
    subst hn hx
    exact .inl ⟨rfl, rfl, rfl⟩
  · refine .inr ⟨g, 0, cap, rfl, hc, fun j u hu => ?_⟩
    rw [Nat.zero_add]
    have := h.cells (g := g) rfl j u hu
    rwa [add_none, Nat.zero_add] at this
theorem Rd.one (w : World) (x : Value) (t : TypeId) : Rd (w.alloc (.cells #[x] t)) (.slice (some ⟨w.heap.size, 0, none⟩) 1 1) 1 [x] := by
  refine .inr ⟨_, 0, 1, rfl, Nat.le_refl _, fun j u hu => ?_⟩
  match j, hu with
  | 0, hu => simp at hu; subst hu; simp [go_sem]
theorem Rd.one' (w : World) (x : Value) (t : TypeId) (b : Nat) (hb : b = w.heap.size) : Rd (w.alloc (.cells #[x] t)) (.slice (some ⟨b, 0, none⟩) 1 1) 1 [x] := hb ▸ Rd.one w x t
theorem Rd.two (w : World) (x y : Value) (t : TypeId) : Rd (w.alloc (.cells #[x, y] t)) (.slice (some ⟨w.heap.size, 0, none⟩) 2 2) 2 [x, y] := by
  refine .inr ⟨_, 0, 2, rfl, Nat.le_refl _, fun j u hu => ?_⟩
  match j, hu with
  | 0, hu => simp at hu; subst hu; simp [go_sem]
  | 1, hu => simp at hu; subst hu; simp [go_sem]
theorem own_less {base base' e size : Nat} (h : w.ownsRow base e size v n xs) (hb : base' ≤ base) : w.ownsRow base' e size v n xs := by
  refine ⟨h.1, ?_⟩
  rcases h.2 with hn | ⟨g, cap, cur, hv, hg, rest⟩
  · exact .inl hn
  · exact .inr ⟨g, cap, cur, hv, Nat.le_trans hb hg, rest⟩
theorem own_blk {base e size : Nat} (h : w.ownsRow base e size v n xs) : ∀ k, v.ownBlock = some k → base ≤ k ∧ k < w.heap.size := h.lt
theorem own_type {base e size : Nat} (h : w.ownsRow base e size v n xs) : ∀ k, v.ownBlock = some k → ∃ cur, w.heap[k]? = some (.cells cur e (0, 0)) := by
  intro k hk
  rcases h.2 with ⟨rfl, _⟩ | ⟨g, cap, cur, rfl, _, hg, _⟩
  · cases hk
  · cases hk; exact ⟨cur, hg⟩
theorem own_ne {base e size : Nat} (h : w.ownsRow base e size v n xs) {b t : Nat} {cur : Array Value} {z : Nat × Nat} (hb : w.heap[b]? = some (.cells cur t z)) (ht : e ≠ t) : ∀ k, v.ownBlock = some k → k ≠ b := by
  rintro k hk rfl
  obtain ⟨cur', h'⟩ := own_type h k hk
  rw [hb] at h'
  simp only [Option.some.injEq, Obj.cells.injEq] at h'
  exact ht h'.2.1.symm
theorem ne_types {b b' t t' : Nat} {c c' : Array Value} {z z' : Nat × Nat} (h : w.heap[b]? = some (.cells c t z)) (h' : w.heap[b']? = some (.cells c' t' z')) (ht : t ≠ t') : b ≠ b' := by
  rintro rfl
  rw [h] at h'
  simp only [Option.some.injEq, Obj.cells.injEq] at h'
  exact ht h'.2.1
theorem own_at {base e size : Nat} (h : w.ownsRow base e size v n xs) {j : Nat} {u : Value} (hj : xs[j]? = some u) : ∃ g c, v = .slice (some ⟨g, 0, none⟩) n c ∧ n ≤ c ∧ w.cell? ⟨g, j, none⟩ = some u ∧ w.frozen? ⟨g, j, none⟩ = false := by
  rcases h.2 with ⟨rfl, hn⟩ | ⟨g, cap, cur, rfl, _, hg, hc, _⟩
  · have hx : xs = [] := List.eq_nil_of_length_eq_zero (by rw [h.1, hn]; simp)
    subst hx
    simp at hj
  · refine ⟨g, cap, rfl, hc, ?_, h.frozenAt j⟩
    have := h.cells (g := g) rfl j u hj
    rwa [add_none, Nat.zero_add] at this
theorem own_take {base e size : Nat} {g c m : Nat} (h : w.ownsRow base e size (.slice (some ⟨g, 0, none⟩) n c) n xs) (hm : m ≤ n) : w.ownsRow base e size (.slice (some ⟨g, 0, none⟩) m c) m (xs.take (m * size)) := by
  have hle : m * size ≤ n * size := Nat.mul_le_mul_right _ hm
  refine ⟨by rw [List.length_take, h.1]; omega, ?_⟩
  rcases h.2 with ⟨h', _⟩ | ⟨g', cap', cur, h', hb, hg, hnc, hcm, hcs, htake⟩
  · cases h'
  · simp only [Value.slice.injEq, Option.some.injEq, Addr.mk.injEq, and_true, true_and] at h'
    obtain ⟨rfl, rfl⟩ := h'
    exact .inr ⟨g, c, cur, rfl, hb, hg, by omega, hcm, hcs, by rw [← htake, List.take_take, Nat.min_eq_left hle]⟩
end

section
variable {P : Program} {w : World}
theorem run_append_rd (B : Nat) (t ty e : TypeId) (i : TypeInfo) (z : Value) (size bytes : Nat) (ht : P.underlying t = some (.slice e)) (hi : P.info? e = some i) (hz : i.zero = some z) (hsize : i.size = size) (hby : i.bytes = bytes)
    (hzs : z.cells.size = size) (hsz : 0 < size) (v : Value) (n : Nat) (xs : List Value) (hown : w.ownsRow B e size v n xs) (y : Value) (m : Nat) (ys : List Value) (hy : Rd w y m ys) (hl : ys.length = m * size) (h1 : ∀ u ∈ ys, u.oneCell' = true)
    (h63 : n + m ≤ maxLen) (hbytes : (n + m) * bytes ≤ 140737488355328) (hB : B ≤ w.heap.size) :
    ∃ v' w', (Builtin.append_ #[t, t] ty #[v, y]).run P w = .ok v' w' ∧ w'.ownsRow B e size v' (n + m) (xs ++ ys) ∧ w.grownBy w' v.ownBlock ∧ (v'.ownBlock = v.ownBlock ∨ v'.ownBlock = some w.heap.size) := by
  rcases hy with ⟨rfl, rfl, rfl⟩ | ⟨b, o, c, rfl, _, hc⟩
  · exact ⟨v, w, run_append_owned_none w B t ty e i size ht hi v _ _ hown, by simpa using hown, ⟨rfl, rfl, rfl, Nat.le_refl _, fun _ _ _ => rfl⟩, .inl rfl⟩
  · obtain ⟨v', w', hr, ho, hg, _, hat⟩ := run_append_own_at (P := P) w B t ty e i z size bytes ht hi hz hsize hby hzs hsz v n xs hown ⟨b, o, none⟩ m c ys hl (fun j u hu => by rw [add_none]; exact hc j u hu) h1 h63 hbytes hB
    exact ⟨v', w', hr, ho, hg, hat⟩

theorem wp_append_rd {o : Oper} {a : Act} {K : Act → World → Prop} {Q : Exit → Act → World → Prop} (s x : Operand) (t : TypeId)
    (ho : o.op = .call { callee := .builtin .append, args := #[s, x], argTypes := #[t, t] })
    (B : Nat) (e : TypeId) (i : TypeInfo) (z : Value) (size bytes : Nat) (ht : P.underlying t = some (.slice e)) (hi : P.info? e = some i) (hz : i.zero = some z) (hsize : i.size = size) (hby : i.bytes = bytes) (hzs : z.cells.size = size) (hsz : 0 < size)
    (v : Value) (n : Nat) (xs : List Value) (hs : a.eval s = v) (hown : w.ownsRow B e size v n xs) (y : Value) (m : Nat) (ys : List Value) (hx : a.eval x = y) (hy : Rd w y m ys) (hl : ys.length = m * size) (h1 : ∀ u ∈ ys, u.oneCell' = true)
    (h63 : n + m ≤ maxLen) (hbytes : (n + m) * bytes ≤ 140737488355328) (hB : B ≤ w.heap.size)
    (h : ∀ v' w', w'.ownsRow B e size v' (n + m) (xs ++ ys) → w.grownBy w' v.ownBlock → (v'.ownBlock = v.ownBlock ∨ v'.ownBlock = some w.heap.size) → K (a.put o.dst v') w') : o.wp P a w K Q := by
  obtain ⟨v', w', hrun, h2, h3, h4⟩ := run_append_rd (P := P) (w := w) B t o.type e i z size bytes ht hi hz hsize hby hzs hsz v n xs hown y m ys hy hl h1 h63 hbytes hB
  unfold Oper.wp execOp
  simp only [ho, resolve, invoke, builtin, Sem.run_bind, Sem.run_pure, Result.andThen_ok, List.map_toArray, List.map_cons, List.map_nil, hs, hx, hrun]
  exact h v' w' h2 h3 h4
theorem wpList_append_rd {ops : Array Oper} {rest : List Oper} {o : Oper} {a : Act} {Q : Exit → Act → World → Prop} (hgd : o.guard = none) (s x : Operand) (t : TypeId)
    (ho : o.op = .call { callee := .builtin .append, args := #[s, x], argTypes := #[t, t] })
    (B : Nat) (e : TypeId) (i : TypeInfo) (z : Value) (size bytes : Nat) (ht : P.underlying t = some (.slice e)) (hi : P.info? e = some i) (hz : i.zero = some z) (hsize : i.size = size) (hby : i.bytes = bytes) (hzs : z.cells.size = size) (hsz : 0 < size)
    (v : Value) (n : Nat) (xs : List Value) (hs : a.eval s = v) (hown : w.ownsRow B e size v n xs) (y : Value) (m : Nat) (ys : List Value) (hx : a.eval x = y) (hy : Rd w y m ys) (hl : ys.length = m * size) (h1 : ∀ u ∈ ys, u.oneCell' = true)
    (h63 : n + m ≤ maxLen) (hbytes : (n + m) * bytes ≤ 140737488355328) (hB : B ≤ w.heap.size)
    (h : ∀ v' w', w'.ownsRow B e size v' (n + m) (xs ++ ys) → w.grownBy w' v.ownBlock → (v'.ownBlock = v.ownBlock ∨ v'.ownBlock = some w.heap.size) → wpList P ops Q rest (a.put o.dst v') w') : wpList P ops Q (o :: rest) a w :=
  wpList_plain hgd fun _ hK => wp_append_rd s x t ho B e i z size bytes ht hi hz hsize hby hzs hsz v n xs hs hown y m ys hx hy hl h1 h63 hbytes hB fun v' w' h2 h3 h4 => hK _ _ (h v' w' h2 h3 h4)

theorem step_append_rd {ops : Array Oper} {o : Oper} {a : Act} {K : Act → World → Prop} {Q : Exit → Act → World → Prop} {E : Prop} (hgd : o.guard = none) (s x : Operand) (t : TypeId)
    (ho : o.op = .call { callee := .builtin .append, args := #[s, x], argTypes := #[t, t] })
    (B : Nat) (e : TypeId) (i : TypeInfo) (z : Value) (size bytes : Nat) (ht : P.underlying t = some (.slice e)) (hi : P.info? e = some i) (hz : i.zero = some z) (hsize : i.size = size) (hby : i.bytes = bytes) (hzs : z.cells.size = size) (hsz : 0 < size)
    (v : Value) (n : Nat) (xs : List Value) (hs : a.eval s = v) (hown : w.ownsRow B e size v n xs) (y : Value) (m : Nat) (ys : List Value) (hx : a.eval x = y) (hy : Rd w y m ys) (hl : ys.length = m * size) (h1 : ∀ u ∈ ys, u.oneCell' = true)
    (h63 : n + m ≤ maxLen) (hbytes : (n + m) * bytes ≤ 140737488355328) (hB : B ≤ w.heap.size)
    (h : ∀ v' w', w'.ownsRow B e size v' (n + m) (xs ++ ys) → w.grownBy w' v.ownBlock → (v'.ownBlock = v.ownBlock ∨ v'.ownBlock = some w.heap.size) → K (a.put o.dst v') w') :
    if Region.wanted o (yielded ops a.tmps) = true then Oper.wp P o a w K Q else E := by
  have hw : Region.wanted o (yielded ops a.tmps) = true := by simp [Region.wanted, hgd]
  rw [if_pos hw]
  exact wp_append_rd s x t ho B e i z size bytes ht hi hz hsize hby hzs hsz v n xs hs hown y m ys hx hy hl h1 h63 hbytes hB h
theorem step_call {ops : Array Oper} {o : Oper} {a : Act} {K : Act → World → Prop} {Q : Exit → Act → World → Prop} {E : Prop} (hgd : o.guard = none) (f : FuncId) (args : Array Value) (hrun : (execOp a.eval o).run P w = .ok (.enter f args) w)
    {R : Value → World → Prop} (hc : Calls P f args w fun e w' => ∃ v, e = .returned v ∧ R v w') (h : ∀ v w', R v w' → K (a.put o.dst v) w') : if Region.wanted o (yielded ops a.tmps) = true then Oper.wp P o a w K Q else E := by
  have hw : Region.wanted o (yielded ops a.tmps) = true := by simp [Region.wanted, hgd]
  rw [if_pos hw]
  unfold Oper.wp
  rw [hrun, Oper.upon_enter]
  refine hc.mono fun e w' hh => ?_
  obtain ⟨v, rfl, hR⟩ := hh
  exact h v w' hR
end

end Go.Proofs.YtkkfhbcnfknmaaaGreat

namespace Go.Proofs.YtkkfhbcnfknmaaaGreat
open Go.RowKit

end Go.Proofs.YtkkfhbcnfknmaaaGreat

namespace Go.Proofs.YtkkfhbcnfknmaaaGreat
open Go.ChangeShapes Go.WideShapes Go.ChangeAt Go.RowKit Go.Joins Go.Deep

abbrev V3 := Int × Int × ByteArray

def Lst (w : World) (A : Option Addr) (l : List V3) : Prop :=
  l = [] ∨ ∃ b o, A = some ⟨b, o, none⟩ ∧ b < w.heap.size ∧ ∀ i x, l[i]? = some x →
    w.cell? ⟨b, o + i * 3, none⟩ = some (.int .u8 x.1) ∧ w.cell? ⟨b, o + i * 3 + 1, none⟩ = some (.int .i64 x.2.1) ∧ w.cell? ⟨b, o + i * 3 + 2, none⟩ = some (.string x.2.2)

theorem Lst.grow {w w' : World} {A : Option Addr} {l : List V3} (h : Lst w A l) (g : Gw w w') : Lst w' A l := by
  rcases h with h | ⟨b, o, hA, hb, hc⟩
  · exact .inl h
  · refine .inr ⟨b, o, hA, Nat.lt_of_lt_of_le hb g.size, fun i x hx => ?_⟩
    obtain ⟨c0, c1, c2⟩ := hc i x hx
    exact ⟨(g.cell hb).trans c0, (g.cell hb).trans c1, (g.cell hb).trans c2⟩
theorem Lst.at {w : World} {A : Option Addr} {l : List V3} (h : Lst w A l) {i : Nat} {x : V3} (hi : l[i]? = some x) : ∃ b o, A = some ⟨b, o, none⟩ ∧ b < w.heap.size ∧
    w.cell? ⟨b, o + i * 3, none⟩ = some (.int .u8 x.1) ∧ w.cell? ⟨b, o + i * 3 + 1, none⟩ = some (.int .i64 x.2.1) ∧ w.cell? ⟨b, o + i * 3 + 2, none⟩ = some (.string x.2.2) := by
  rcases h with h | ⟨b, o, hA, hb, hc⟩
  · subst h; simp at hi
  · exact ⟨b, o, hA, hb, hc i x hi⟩

theorem Lst.gr {w : World} {A : Option Addr} {l : List V3} (h : Lst w A l) {i : Nat} {x : V3} (hi : l[i]? = some x) : ∃ b o, A = some ⟨b, o, none⟩ ∧
    (∀ g : Gr w, g.at'.cell? ⟨b, o + i * 3, none⟩ = some (.int .u8 x.1)) ∧ (∀ g : Gr w, g.at'.cell? ⟨b, o + i * 3 + 1, none⟩ = some (.int .i64 x.2.1)) ∧ (∀ g : Gr w, g.at'.cell? ⟨b, o + i * 3 + 2, none⟩ = some (.string x.2.2)) := by
  obtain ⟨b, o, hA, hb, c0, c1, c2⟩ := h.at hi
  exact ⟨b, o, hA, Gr.cell c0 hb, Gr.cell c1 hb, Gr.cell c2 hb⟩

theorem vcells : Tryz.prog.cellsOf 36 = 3 := by kernel_rfl
theorem cellsK : Tryz.prog.cellsOf 34 = 1 := by kernel_rfl
theorem cellsN : Tryz.prog.cellsOf 2 = 1 := by kernel_rfl
theorem cellsS : Tryz.prog.cellsOf 9 = 1 := by kernel_rfl

section
variable {H : Type} {enc : TypeId × Value → H} {W : World} {base : Nat} {sp : Nat → Bool} {held : Bool}
set_option maxRecDepth 20000 in
theorem elem3 {cs : List Value} {n : Nat} {x : DataW H × List MemPlace} (h : DataW.trod enc Tryz.prog W base sp held n 36 cs = some x) :
    ∃ (k m : Int) (s : ByteArray), cs = [.int .u8 k, .int .i64 m, .string s] ∧ (Lit.int .u8 k).wf = true ∧ s.size ≤ maxLen := by
  obtain ⟨xs, n', _, hx, hlen, hxl, hf⟩ := DataW.trod_struct Tryz.underlying36 h
  rw [vcells] at hlen
  match cs, hlen with
  | [c0, c1, c2], _ =>
    have hxl' : xs.length = 3 := hxl
    match xs, hxl' with
    | [y0, y1, y2], _ =>
      have f0 : DataW.trod enc Tryz.prog W base sp held n' 34 [c0] = some y0 := by simpa [cellsK] using hf 0 _ rfl
      have f1 : DataW.trod enc Tryz.prog W base sp held n' 2 [c1] = some y1 := by simpa [cellsN] using hf 1 _ rfl
      have f2 : DataW.trod enc Tryz.prog W base sp held n' 9 [c2] = some y2 := by simpa [cellsS] using hf 2 _ rfl
      obtain ⟨k, e0, _, wk⟩ := DataW.trod_int Tryz.underlying34 f0
      obtain ⟨m, e1, _, _⟩ := DataW.trod_int Tryz.underlying2 f1
      obtain ⟨s, e2, _, ws⟩ := DataW.trod_string Tryz.underlying9 f2
      simp at e0 e1 e2
      subst e0 e1 e2
      exact ⟨k, m, s, rfl, wk, ws⟩

set_option maxRecDepth 20000 in
theorem open_values {v : Value} {d : DataW H} {p : List MemPlace} {r : Reach} {b0 : Nat} (hv : Value.okWide Tryz.prog W r b0 50 v) (h : DataW.Trod enc Tryz.prog W 0 (fun _ => true) true 50 v d p) :
    ∃ (A : Option Addr) (l : List V3) (c : Nat), v = .slice A l.length c ∧ Lst W A l ∧ (∀ x ∈ l, 0 ≤ x.1 ∧ x.1 ≤ 255) ∧ (∀ x ∈ l, x.2.2.size ≤ 9223372036854775807) ∧ (l = [] ∨ ∃ es ss, d = .slice es ss ∧ es.length = l.length) := by
  obtain ⟨a, len, cap, rfl⟩ := okWide_slice Tryz.underlying50 hv
  obtain ⟨fuel, hf⟩ := h
  rcases open_slice Tryz.underlying50 hf with ⟨hcs, _⟩ | ⟨a', len', cap', m, n, D, Pl, hcs, _, hl, hm, hmm, hx, hi⟩
  · simp [Value.cells] at hcs
    obtain ⟨rfl, rfl, rfl⟩ := hcs
    exact ⟨none, [], 0, rfl, .inl rfl, by simp, by simp, .inl rfl⟩
  · simp [Value.cells] at hcs
    obtain ⟨rfl, rfl, rfl⟩ := hcs
    simp only [if_true] at hmm
    subst hmm
    have hel : ∀ i, ∃ x : V3, i < len → ((0 ≤ x.1 ∧ x.1 ≤ 255) ∧ x.2.2.size ≤ 9223372036854775807 ∧ W.cell? (a'.add (i * 3)) = some (.int .u8 x.1) ∧ W.cell? ((a'.add (i * 3)).add 1) = some (.int .i64 x.2.1) ∧ W.cell? ((a'.add (i * 3)).add 2) = some (.string x.2.2)) := fun i => by
      by_cases hlt : i < len
      · obtain ⟨cs', hc, ht⟩ := hi i (by omega)
        rw [vcells] at hc
        obtain ⟨_, _, hat⟩ := World.cells?_some hc
        obtain ⟨k, q, s, rfl, wk, ws⟩ := elem3 ht
        refine ⟨(k, q, s), fun _ => ⟨bounds_u8 wk, by unfold maxLen at ws; simpa using ws, ?_, ?_, ?_⟩⟩
        · simpa [Addr.add] using hat 0 (by omega)
        · simpa using hat 1 (by omega)
        · simpa using hat 2 (by omega)
      · exact ⟨(0, 0, ⟨#[]⟩), fun h => absurd h hlt⟩
    obtain ⟨f, hf'⟩ := Classical.axiomOfChoice hel
    refine ⟨some a', (List.range len).map f, m, by simp, ?_, ?_, ?_, .inr ⟨_, _, by rw [Prod.mk.injEq] at hx; exact hx.1, by simp⟩⟩
    · by_cases h0 : len = 0
      · subst h0; exact .inl rfl
      · right
        obtain ⟨b, o, spot⟩ := a'
        obtain rfl : spot = none := by simpa [Addr.add] using World.cell?_spot (hf' 0 (by omega)).2.2.1
        refine ⟨b, o, rfl, World.block_lt_of_cell? W ⟨b, o, none⟩ (by simpa [Addr.add] using (hf' 0 (by omega)).2.2.1), fun i x hx => ?_⟩
        simp only [List.getElem?_map, Option.map_eq_some_iff] at hx
        obtain ⟨i', hi', rfl⟩ := hx
        obtain ⟨hlt, rfl⟩ := List.getElem?_eq_some_iff.1 hi'
        simp only [List.length_range] at hlt
        simp only [List.getElem_range]
        obtain ⟨_, _, c0, c1, c2⟩ := hf' i hlt
        rw [add_plain] at c0 c1 c2
        rw [add_plain] at c1 c2
        exact ⟨c0, c1, c2⟩
    · intro x hx
      obtain ⟨i, hi', rfl⟩ := List.mem_map.1 hx
      exact (hf' i (List.mem_range.1 hi')).1
    · intro x hx
      obtain ⟨i, hi', rfl⟩ := List.mem_map.1 hx
      exact (hf' i (List.mem_range.1 hi')).2.1
end

def cells3 (x : V3) : List Value := [.int .u8 x.1, .int .i64 x.2.1, .string x.2.2]
theorem flat_len : ∀ l : List V3, (l.flatMap cells3).length = l.length * 3
  | [] => rfl
  | x :: l => by rw [List.flatMap_cons, List.length_append, flat_len l, List.length_cons]; simp [cells3]; omega
theorem Lst.below {w w' : World} {A : Option Addr} {l : List V3} (h : Lst w A l) (g : Below w.heap.size w w') : Lst w' A l := by
  rcases h with h | ⟨b, o, hA, hb, hc⟩
  · exact .inl h
  · refine .inr ⟨b, o, hA, Nat.lt_of_lt_of_le hb g.size, fun i x hx => ?_⟩
    obtain ⟨c0, c1, c2⟩ := hc i x hx
    exact ⟨(g.cell (p := ⟨b, _, none⟩) hb).trans c0, (g.cell (p := ⟨b, _, none⟩) hb).trans c1, (g.cell (p := ⟨b, _, none⟩) hb).trans c2⟩
theorem Lst.grown {w w' : World} {A : Option Addr} {l : List V3} {g : Nat} (h : Lst w A l) (hg : w.grownBy w' (some g)) (hA : ∀ a, A = some a → l ≠ [] → a.block ≠ g) : Lst w' A l := by
  by_cases hl : l = []
  · exact .inl hl
  rcases h with h | ⟨b, o, rfl, hb, hc⟩
  · exact .inl h
  · have hne : some b ≠ some g := fun e => hA _ rfl hl (by injection e)
    refine .inr ⟨b, o, rfl, Nat.lt_of_lt_of_le hb hg.size, fun i x hx => ?_⟩
    obtain ⟨c0, c1, c2⟩ := hc i x hx
    exact ⟨hg.cell c0 hne, hg.cell c1 hne, hg.cell c2 hne⟩


end Go.Proofs.YtkkfhbcnfknmaaaGreat

namespace Go.Proofs.YtkkfhbcnfknmaaaGreat
open Go.RowKit

end Go.Proofs.YtkkfhbcnfknmaaaGreat

namespace Go.Proofs.YtkkfhbcnfknmaaaGreat

def icmp (a b : Int) : Int := if a < b then -1 else if b < a then 1 else 0
def lcmp : List UInt8 → List UInt8 → Int
  | [], [] => 0
  | [], _ :: _ => -1
  | _ :: _, [] => 1
  | a :: x, b :: y => if a < b then -1 else if b < a then 1 else lcmp x y
def vcmp (k n : Int) (s : ByteArray) (k' n' : Int) (s' : ByteArray) : Int :=
  if k = k' then (if n = n' then lcmp s.toList s'.toList else icmp n n') else icmp k k'

theorem icmp_range (a b : Int) : -1 ≤ icmp a b ∧ icmp a b ≤ 1 := by unfold icmp; split <;> (try split) <;> omega
theorem icmp_swap (a b : Int) : icmp b a = - icmp a b := by unfold icmp; split <;> (try split) <;> (try split) <;> omega
theorem icmp_zero (a b : Int) : icmp a b = 0 ↔ a = b := by unfold icmp; split <;> (try split) <;> omega
theorem icmp_lt (a b : Int) : icmp a b = -1 ↔ a < b := by unfold icmp; split <;> (try split) <;> omega

theorem u8_ext (a b : UInt8) (h1 : ¬ a < b) (h2 : ¬ b < a) : a = b := by
  rw [UInt8.lt_iff_toNat_lt] at h1 h2
  exact UInt8.toNat_inj.1 (by omega)
theorem u8_irrefl (a : UInt8) : ¬ a < a := by rw [UInt8.lt_iff_toNat_lt]; omega

theorem lcmp_range : ∀ a b : List UInt8, -1 ≤ lcmp a b ∧ lcmp a b ≤ 1
  | [], [] => by simp [lcmp]
  | [], _ :: _ => by simp [lcmp]
  | _ :: _, [] => by simp [lcmp]
  | a :: x, b :: y => by rw [lcmp]; split <;> (try split) <;> first | omega | exact lcmp_range x y
theorem lcmp_swap : ∀ a b : List UInt8, lcmp b a = - lcmp a b
  | [], [] => by simp [lcmp]
  | [], _ :: _ => by simp [lcmp]
  | _ :: _, [] => by simp [lcmp]
  | a :: x, b :: y => by
    have ih := lcmp_swap x y
    rw [lcmp, lcmp]
    by_cases h1 : a < b
    · have h2 : ¬ b < a := by rw [UInt8.lt_iff_toNat_lt] at *; omega
      simp [h1, h2]
    · by_cases h2 : b < a <;> simp [h1, h2, ih]
theorem lcmp_zero : ∀ a b : List UInt8, lcmp a b = 0 ↔ a = b
  | [], [] => by simp [lcmp]
  | [], _ :: _ => by simp [lcmp]
  | _ :: _, [] => by simp [lcmp]
  | a :: x, b :: y => by
    have ih := lcmp_zero x y
    rw [lcmp]
    by_cases h1 : a < b
    · have : a ≠ b := fun e => u8_irrefl b (by rwa [e] at h1)
      simp [h1, this]
    · by_cases h2 : b < a
      · have : a ≠ b := fun e => u8_irrefl b (by rwa [e] at h2)
        simp [h1, h2, this]
      · simp [ih, u8_ext a b h1 h2]
theorem lcmp_less : ∀ a b : List UInt8, Op.bytesLess a b = decide (lcmp a b = -1)
  | [], [] => by simp [lcmp, Op.bytesLess]
  | [], _ :: _ => by simp [lcmp, Op.bytesLess]
  | _ :: _, [] => by simp [lcmp, Op.bytesLess]
  | a :: x, b :: y => by
    have ih := lcmp_less x y
    rw [lcmp, Op.bytesLess]
    by_cases h1 : a < b
    · simp [h1]
    · by_cases h2 : b < a
      · have : a ≠ b := fun e => u8_irrefl b (by rwa [e] at h2)
        simp [h1, h2, this]
      · simp [ih, u8_ext a b h1 h2]
theorem lcmp_trans : ∀ a b c : List UInt8, lcmp a b ≤ 0 → lcmp b c ≤ 0 → lcmp a c ≤ 0 ∧ (lcmp a c = 0 → lcmp a b = 0 ∧ lcmp b c = 0)
  | [], [], [] => by simp [lcmp]
  | [], [], _ :: _ => by simp [lcmp]
  | [], _ :: _, [] => by simp [lcmp]
  | [], _ :: _, _ :: _ => by simp [lcmp]
  | _ :: _, [], _ => by simp [lcmp]
  | _ :: _, _ :: _, [] => by simp [lcmp]
  | a :: x, b :: y, c :: z => by
    have ih := lcmp_trans x y z
    rw [lcmp, lcmp, lcmp]
    simp only [UInt8.lt_iff_toNat_lt]
    generalize a.toNat = a
    generalize b.toNat = b
    generalize c.toNat = c
    intro h1 h2
    repeat' split at h1
    all_goals repeat' split at h2
    all_goals repeat' split
    all_goals first | omega | exact ih h1 h2

theorem icmp_m1 {a b : Int} (h : a < b) : -1 = icmp a b := by simp [icmp, h]
theorem icmp_p1 {a b : Int} (h : b < a) : 1 = icmp a b := by unfold icmp; rw [if_neg (by omega), if_pos h]
theorem icmp_0 {a b : Int} (h : b ≤ a) (h' : a ≤ b) : 0 = icmp a b := by unfold icmp; rw [if_neg (by omega), if_neg (by omega)]
theorem lcmp_m1 {a b : List UInt8} (h : Op.bytesLess a b = true) : -1 = lcmp a b := by rw [lcmp_less] at h; exact (of_decide_eq_true h).symm
theorem lcmp_p1 {a b : List UInt8} (h : Op.bytesLess a b = false) (h' : (!a == b) = true) : 1 = lcmp a b := by
  rw [lcmp_less] at h
  have h1 := of_decide_eq_false h
  have h2 : ¬ lcmp a b = 0 := fun e => by rw [(lcmp_zero a b).1 e] at h'; simp at h'
  have := lcmp_range a b
  omega
theorem lcmp_0 {a b : List UInt8} (h' : (!a == b) = false) : 0 = lcmp a b := by
  have : a = b := by simpa using h'
  exact ((lcmp_zero a b).2 this).symm

theorem vcmp_range (k n : Int) (s : ByteArray) (k' n' : Int) (s' : ByteArray) : -1 ≤ vcmp k n s k' n' s' ∧ vcmp k n s k' n' s' ≤ 1 := by
  unfold vcmp; split <;> (try split)
  · exact lcmp_range _ _
  · exact icmp_range _ _
  · exact icmp_range _ _
theorem vcmp_swap (k n : Int) (s : ByteArray) (k' n' : Int) (s' : ByteArray) : vcmp k' n' s' k n s = - vcmp k n s k' n' s' := by
  unfold vcmp
  by_cases h1 : k = k'
  · by_cases h2 : n = n'
    · simp [h1, h2, lcmp_swap s.toList]
    · simp [h1, h2, Ne.symm h2, icmp_swap n]
  · simp [h1, Ne.symm h1, icmp_swap k]
theorem vcmp_zero (k n : Int) (s : ByteArray) (k' n' : Int) (s' : ByteArray) : vcmp k n s k' n' s' = 0 ↔ k = k' ∧ n = n' ∧ s.toList = s'.toList := by
  unfold vcmp
  by_cases h1 : k = k'
  · by_cases h2 : n = n'
    · simp [h1, h2, lcmp_zero]
    · simp [h1, h2, icmp_zero]
  · simp [h1, icmp_zero]
theorem vcmp_trans (k1 n1 : Int) (s1 : ByteArray) (k2 n2 : Int) (s2 : ByteArray) (k3 n3 : Int) (s3 : ByteArray) :
    vcmp k1 n1 s1 k2 n2 s2 ≤ 0 → vcmp k2 n2 s2 k3 n3 s3 ≤ 0 → vcmp k1 n1 s1 k3 n3 s3 ≤ 0 ∧ (vcmp k1 n1 s1 k3 n3 s3 = 0 → vcmp k1 n1 s1 k2 n2 s2 = 0 ∧ vcmp k2 n2 s2 k3 n3 s3 = 0) := by
  have e1 : ∀ a b : Int, icmp a b ≤ 0 → a ≠ b → a < b := fun a b h hne => by unfold icmp at h; split at h <;> (try split at h) <;> omega
  have e2 : ∀ a b : Int, a < b → icmp a b = -1 := fun a b h => (icmp_lt a b).2 h
  unfold vcmp
  have L := lcmp_trans s1.toList s2.toList s3.toList
  by_cases ha : k1 = k2
  · subst ha
    by_cases hb : k1 = k3
    · subst hb
      simp only [if_true]
      by_cases hc : n1 = n2
      · subst hc
        by_cases hd : n1 = n3
        · subst hd; simpa using L
        · simp only [if_true, if_neg hd]; intro _ h; have := e2 _ _ (e1 _ _ h hd); omega
      · simp only [if_neg hc]
        by_cases hd : n2 = n3
        · subst hd; simp only [if_true, if_neg hc]; intro h _; have := e2 _ _ (e1 _ _ h hc); omega
        · simp only [if_neg hd]; intro h h'
          have a1 := e1 _ _ h hc; have a2 := e1 _ _ h' hd
          rw [if_neg (by omega), e2 n1 n3 (by omega)]; omega
    · simp only [if_true, if_neg hb]; intro _ h; have := e2 _ _ (e1 _ _ h hb); omega
  · simp only [if_neg ha]
    by_cases hb : k2 = k3
    · subst hb; simp only [if_true, if_neg ha]; intro h _; have := e2 _ _ (e1 _ _ h ha); omega
    · simp only [if_neg hb]; intro h h'
      have a1 := e1 _ _ h ha; have a2 := e1 _ _ h' hb
      rw [if_neg (by omega), e2 k1 k3 (by omega)]; omega

theorem vc_0 {k n k' n' : Int} {s s' : ByteArray} (h1 : k = k') (h2 : n = n') (h3 : s.toList = s'.toList) : 0 = vcmp k n s k' n' s' := ((vcmp_zero _ _ _ _ _ _).2 ⟨h1, h2, h3⟩).symm
theorem vc_s {k n k' n' : Int} {s s' : ByteArray} (h1 : k = k') (h2 : n = n') : lcmp s.toList s'.toList = vcmp k n s k' n' s' := by simp [vcmp, h1, h2]
theorem vc_n {k n k' n' : Int} {s s' : ByteArray} (h1 : k = k') (h2 : ¬ n = n') : icmp n n' = vcmp k n s k' n' s' := by simp [vcmp, h1, h2]
theorem vc_k {k n k' n' : Int} {s s' : ByteArray} (h1 : ¬ k = k') : icmp k k' = vcmp k n s k' n' s' := by simp [vcmp, h1]

def rightB (k n : Int) (s : ByteArray) : Bool :=
  if k = 0 then decide (n = 0) && s.toList.isEmpty else if k = 1 then (decide (n = 0) || decide (n = 1)) && s.toList.isEmpty else if k = 2 then s.toList.isEmpty
  else if k = 3 then decide (n = 0) && decide ((s.size : Int) ≤ 4096) else false

theorem drop_at (s : ByteArray) (i : Nat) (h : i < s.size) : s.toList.drop i = s[i] :: s.toList.drop (i + 1) := by
  rw [ByteArray.toList_eq, List.drop_eq_getElem_cons (by simpa using h)]; rfl
theorem len_toList (s : ByteArray) : s.toList.length = s.size := by rw [ByteArray.toList_eq]; simp
theorem lc_part {s t : ByteArray} {i : Nat} (hi : i < s.size) (hj : i < t.size) (hd : lcmp s.toList t.toList = lcmp (s.toList.drop i) (t.toList.drop i)) (hne : ((s[i].toNat : Int) != (t[i].toNat : Int)) = true) :
    decide (s[i].toNat < t[i].toNat) = decide (lcmp s.toList t.toList = -1) := by
  rw [hd, drop_at s i hi, drop_at t i hj, lcmp]
  simp only [UInt8.lt_iff_toNat_lt]
  have : ¬ (s[i].toNat : Int) = (t[i].toNat : Int) := by simpa using hne
  by_cases h : s[i].toNat < t[i].toNat
  · simp [h]
  · have h' : t[i].toNat < s[i].toNat := by omega
    simp [h, h']
theorem lc_on {s t : ByteArray} {i : Nat} (hi : i < s.size) (hj : i < t.size) (hd : lcmp s.toList t.toList = lcmp (s.toList.drop i) (t.toList.drop i)) (hne : ((s[i].toNat : Int) != (t[i].toNat : Int)) = false) :
    lcmp s.toList t.toList = lcmp (s.toList.drop (i + 1)) (t.toList.drop (i + 1)) := by
  rw [hd, drop_at s i hi, drop_at t i hj, lcmp]
  have e : s[i].toNat = t[i].toNat := by have : (s[i].toNat : Int) = (t[i].toNat : Int) := by simpa using hne
                                         omega
  simp only [UInt8.lt_iff_toNat_lt]
  rw [if_neg (by omega), if_neg (by omega)]
theorem lc_end {s t : ByteArray} {i : Nat} (hi : i ≤ s.size) (hj : i ≤ t.size) (hd : lcmp s.toList t.toList = lcmp (s.toList.drop i) (t.toList.drop i)) (h : ¬ (i < s.size ∧ i < t.size)) :
    decide (s.size < t.size) = decide (lcmp s.toList t.toList = -1) := by
  rw [hd]
  by_cases h1 : i < s.size
  · have h2 : i = t.size := by omega
    rw [drop_at s i h1, List.drop_eq_nil_of_le (show t.toList.length ≤ i by rw [len_toList]; omega)]
    simp [lcmp]; omega
  · have h1' : i = s.size := by omega
    rw [List.drop_eq_nil_of_le (show s.toList.length ≤ i by rw [len_toList]; omega)]
    by_cases h2 : i < t.size
    · rw [drop_at t i h2]; simp [lcmp]; omega
    · rw [List.drop_eq_nil_of_le (show t.toList.length ≤ i by rw [len_toList]; omega)]; simp [lcmp]; omega
def lessB (k n : Int) (s : ByteArray) (k' n' : Int) (s' : ByteArray) : Bool := decide (vcmp k n s k' n' s' = -1)
theorem less_k {k n k' n' : Int} {s s' : ByteArray} (h : ¬ k = k') : decide (k < k') = lessB k n s k' n' s' := by simp [lessB, vcmp, h, icmp_lt]
theorem less_n {k n k' n' : Int} {s s' : ByteArray} (h : k = k') (h2 : ¬ n = n') : decide (n < n') = lessB k n s k' n' s' := by simp [lessB, vcmp, h, h2, icmp_lt]
theorem less_s (k n : Int) (s s' : ByteArray) : lessB k n s k n s' = decide (lcmp s.toList s'.toList = -1) := by simp [lessB, vcmp]
theorem cm_m1 {k n k' n' : Int} {s s' : ByteArray} (h : lessB k n s k' n' s' = true) : -1 = vcmp k n s k' n' s' := (of_decide_eq_true h).symm
theorem cm_p1 {k n k' n' : Int} {s s' : ByteArray} (h : lessB k' n' s' k n s = true) : 1 = vcmp k n s k' n' s' := by
  have := of_decide_eq_true h
  rw [vcmp_swap] at this
  omega
theorem cm_0 {k n k' n' : Int} {s s' : ByteArray} (h : lessB k n s k' n' s' = false) (h' : lessB k' n' s' k n s = false) : 0 = vcmp k n s k' n' s' := by
  have h1 := of_decide_eq_false h
  have h2 := of_decide_eq_false h'
  rw [vcmp_swap] at h2
  have := vcmp_range k n s k' n' s'
  omega

theorem bytes_ext {s t : ByteArray} (h : s.toList = t.toList) : s = t := by
  rw [ByteArray.toList_eq, ByteArray.toList_eq] at h
  obtain ⟨⟨a⟩⟩ := s
  obtain ⟨⟨b⟩⟩ := t
  simp at h
  rw [h]

end Go.Proofs.YtkkfhbcnfknmaaaGreat

/- Several texts in one. -/
import Derived.WalkKit
import Derived.ProofKit
import Derived.BigQuiet
import Derived.Maps.AppendAt
import Derived.Maps.Range
import Derived.Laws.OwnMore
import Derived.OwnWalk
import Derived.Deep.RegionLaw
import Derived.Lib.Hide
import Derived.RangeFuncNested
import Derived.RangeFuncBound
import Derived.RangeFuncLeaves
import Derived.Shelf.Abstract
import Derived.Lib.SliceRun
import Derived.Laws.IdiomCopy
namespace Go.Proofs.YtdddhmipifkepaaGreat
open Go.RowKit

structure Gw (w w' : World) : Prop where
  below : Below w.heap.size w w'
  frozen : ∀ a, w'.frozen? a = w.frozen? a

theorem Gw.refl (w : World) : Gw w w := ⟨Below.refl _ _, fun _ => rfl⟩
theorem Gw.trans {a b c : World} (h : Gw a b) (k : Gw b c) : Gw a c :=
  ⟨h.below.trans (k.below.mono h.below.size), fun x => (k.frozen x).trans (h.frozen x)⟩
theorem Gw.alloc {a w : World} (h : Gw a w) (c : Array Value) (t : TypeId) : Gw a (w.alloc (.cells c t)) :=
  ⟨h.below.alloc h.below.size _, fun x => (frozen?_alloc_cells _ _ _ x).trans (h.frozen x)⟩
theorem Gw.setCell {a w : World} (h : Gw a w) {p : Addr} (hp : a.heap.size ≤ p.block) (v : Value) : Gw a (w.setCell p v) :=
  ⟨h.below.setCell hp v, fun x => (World.frozen?_setCell _ _ _ _).trans (h.frozen x)⟩
theorem Gw.drew {a w : World} (h : Gw a w) : Gw a w.drew := ⟨h.below.drew, h.frozen⟩
theorem Gw.drewN {a w : World} (h : Gw a w) (n : Nat) : Gw a (w.drewN n) := ⟨⟨h.below.os, h.below.tape, h.below.output, h.below.size, h.below.block⟩, h.frozen⟩
theorem Gw.frame {w w' : World} (h : Gw w w') (may : MemPlace → Prop) : w.keptBut w' may := h.below.frame may
theorem Gw.cell {w w' : World} (h : Gw w w') {b o : Nat} (hb : b < w.heap.size) : w'.cell? ⟨b, o, none⟩ = w.cell? ⟨b, o, none⟩ := h.below.cell (p := ⟨b, o, none⟩) hb
theorem Gw.size {w w' : World} (h : Gw w w') : w.heap.size ≤ w'.heap.size := h.below.size
structure Gr (w : World) where
  at' : World
  grown : Gw w at'
instance (w : World) : Nonempty (Gr w) := ⟨⟨w, Gw.refl w⟩⟩

theorem Gr.cell {w : World} {b o : Nat} {v : Value} (hc : w.cell? ⟨b, o, none⟩ = some v) (hb : b < w.heap.size) (g : Gr w) : g.at'.cell? ⟨b, o, none⟩ = some v := by
  rw [g.grown.cell hb, hc]

theorem Gr.box3 (w : World) (c0 c1 c2 : Value) (t : TypeId) : (∀ g : Gr (w.alloc (.cells #[c0, c1, c2] t)), g.at'.cell? ⟨w.heap.size, 0, none⟩ = some c0) ∧ (∀ g : Gr (w.alloc (.cells #[c0, c1, c2] t)), g.at'.cell? ⟨w.heap.size, 1, none⟩ = some c1) ∧ (∀ g : Gr (w.alloc (.cells #[c0, c1, c2] t)), g.at'.cell? ⟨w.heap.size, 2, none⟩ = some c2) :=
  ⟨Gr.cell (by simp [go_sem]) (by simp), Gr.cell (by simp [go_sem]) (by simp), Gr.cell (by simp [go_sem]) (by simp)⟩

theorem Gr.calls {P : Program} {f : FuncId} {args : Array Value} {w : World} {v : Value} (g : Gr w)
    (h : Calls P f args g.at' fun e w' => e = .returned v ∧ Gw g.at' w') : Calls P f args g.at' fun e w'' => e = .returned v ∧ ∃ g' : Gr w, w'' = g'.at' :=
  h.mono fun _ _ ⟨he, hm⟩ => ⟨he, ⟨_, g.grown.trans hm⟩, rfl⟩

theorem grownBy_setCell (w : World) (b o : Nat) (u : Value) : w.grownBy (w.setCell ⟨b, o, none⟩ u) (some b) :=
  ⟨rfl, rfl, rfl, by simp [World.setCell], fun k _ hk => Below.heap_setCell w ⟨b, o, none⟩ u k (fun e => hk (by rw [e]))⟩
theorem grownBy_below {a b : World} (h : Below a.heap.size a b) (row : Option Nat) : a.grownBy b row := ⟨h.os, h.tape, h.output, h.size, fun k hk _ => h.block k hk⟩
theorem grownBy_then {a b c : World} {row : Option Nat} (h : a.grownBy b row) (k : Below b.heap.size b c) : a.grownBy c row := h.trans (grownBy_below k row)
theorem ret_int {k : IntKind} {a b : Int} (h : a = b) : Ending.returned (.int k a) = .returned (.int k b) := by rw [h]
theorem ret_bool {a b : Bool} (h : a = b) : Ending.returned (.bool a) = .returned (.bool b) := by rw [h]

end Go.Proofs.YtdddhmipifkepaaGreat

namespace Go.Proofs.YtdddhmipifkepaaGreat
open Go.RowKit

def Rd (w : World) (v : Value) (n : Nat) (xs : List Value) : Prop :=
  (v = .slice none 0 0 ∧ n = 0 ∧ xs = []) ∨ ∃ (b o c : Nat), v = .slice (some ⟨b, o, none⟩) n c ∧ n ≤ c ∧ ∀ j u, xs[j]? = some u → w.cell? ⟨b, o + j, none⟩ = some u

structure Kp (F : Nat → Prop) (w w' : World) : Prop where
  os : w'.os = w.os
  tape : w'.tape = w.tape
  output : w'.output = w.output
  size : w.heap.size ≤ w'.heap.size
  block : ∀ k, k < w.heap.size → ¬ F k → w'.heap[k]? = w.heap[k]?

theorem add_none (b o j : Nat) : (⟨b, o, none⟩ : Addr).add j = ⟨b, o + j, none⟩ := by unfold Addr.add; split <;> simp_all

section
variable {F G : Nat → Prop} {w w' w'' : World} {v : Value} {n : Nat} {xs : List Value}
theorem Kp.refl (F : Nat → Prop) (w : World) : Kp F w w := ⟨rfl, rfl, rfl, Nat.le_refl _, fun _ _ _ => rfl⟩
theorem Kp.trans (h : Kp F w w') (k : Kp G w' w'') (hG : ∀ b, G b → F b ∨ w.heap.size ≤ b) : Kp F w w'' :=
  ⟨k.os.trans h.os, k.tape.trans h.tape, k.output.trans h.output, Nat.le_trans h.size k.size, fun b hb hF =>
    (k.block b (Nat.lt_of_lt_of_le hb h.size) (fun g => by rcases hG b g with g | g <;> first | exact hF g | omega)).trans (h.block b hb hF)⟩
theorem Kp.mono (h : Kp F w w') (hF : ∀ b, F b → b < w.heap.size → G b) : Kp G w w' := ⟨h.os, h.tape, h.output, h.size, fun b hb hg => h.block b hb fun f => hg (hF b f hb)⟩
theorem Kp.of_below (h : Below w.heap.size w w') (F : Nat → Prop) : Kp F w w' := ⟨h.os, h.tape, h.output, h.size, fun b hb _ => h.block b hb⟩
theorem Kp.of_grown {row : Option Nat} (h : w.grownBy w' row) (hF : ∀ k, row = some k → F k ∨ w.heap.size ≤ k) : Kp F w w' :=
  ⟨h.os, h.tape, h.output, h.size, fun b hb hf => h.block b hb fun e => by rcases hF b e.symm with g | g <;> first | exact hf g | omega⟩
theorem Kp.below (h : Kp F w w') (hF : ∀ b, F b → w.heap.size ≤ b) : Below w.heap.size w w' := ⟨h.os, h.tape, h.output, h.size, fun b hb => h.block b hb fun f => by have := hF b f; omega⟩
theorem Kp.alloc (h : Kp F w w') (o : Obj) : Kp F w (w'.alloc o) := h.trans (Kp.of_below ((Below.refl _ _).alloc (Nat.le_refl _) o) (fun _ => False)) (fun _ h => h.elim)
theorem Kp.drew (h : Kp F w w') : Kp F w w'.drew := ⟨h.os, h.tape, h.output, h.size, h.block⟩
theorem Kp.setCell (h : Kp F w w') {b o : Nat} (hb : F b ∨ w.heap.size ≤ b) (u : Value) : Kp F w (w'.setCell ⟨b, o, none⟩ u) :=
  h.trans (G := fun k => k = b) ⟨rfl, rfl, rfl, by simp [World.setCell], fun k _ hk => Below.heap_setCell w' ⟨b, o, none⟩ u k (fun e => hk e)⟩ (fun k e => e ▸ hb)
theorem Kp.one (w : World) (b o : Nat) (u : Value) : Kp (fun k => k = b) w (w.setCell ⟨b, o, none⟩ u) := (Kp.refl (fun k => k = b) w).setCell (.inl rfl) u
theorem Kp.at (h : Kp F w w') {b : Nat} {o : Obj} (hb : w.heap[b]? = some o) (hF : ¬ F b) : w'.heap[b]? = some o := (h.block b (Array.getElem?_eq_some_iff.1 hb).1 hF).trans hb
theorem Kp.cell (h : Kp F w w') {b o : Nat} {u : Value} (hb : w.cell? ⟨b, o, none⟩ = some u) (hF : ¬ F b) : w'.cell? ⟨b, o, none⟩ = some u :=
  (World.cell?_of_block (h.block b (World.block_lt_of_cell? w ⟨b, o, none⟩ hb) hF)).trans hb
theorem Kp.own (h : Kp F w w') {base e size : Nat} (ho : w.ownsRow base e size v n xs) (hF : ∀ k, v.ownBlock = some k → ¬ F k) : w'.ownsRow base e size v n xs := by
  refine ⟨ho.1, ?_⟩
  rcases ho.2 with hn | ⟨g, cap, cur, rfl, hb, hg, rest⟩
  · exact .inl hn
  · exact .inr ⟨g, cap, cur, rfl, hb, h.at hg (hF g rfl), rest⟩
theorem Kp.rd (h : Kp F w w') (hr : Rd w v n xs) (hF : ∀ k, v.ownBlock = some k → ¬ F k) : Rd w' v n xs := by
  rcases hr with hn | ⟨b, o, c, rfl, hc, hx⟩
  · exact .inl hn
  · exact .inr ⟨b, o, c, rfl, hc, fun j u hu => h.cell (hx j u hu) (hF b rfl)⟩

theorem Rd.below (h : Rd w v n xs) (hb : Below w.heap.size w w') : Rd w' v n xs := (Kp.of_below hb (fun _ => False)).rd h (fun _ _ => id)
theorem Rd.alloc (h : Rd w v n xs) (o : Obj) : Rd (w.alloc o) v n xs := h.below ((Below.refl _ _).alloc (Nat.le_refl _) o)
theorem Rd.drew (h : Rd w v n xs) : Rd w.drew v n xs := h
theorem Rd.nil (w : World) : Rd w (.slice none 0 0) 0 [] := .inl ⟨rfl, rfl, rfl⟩
theorem Rd.form (h : Rd w v n xs) : ∃ A c, v = .slice A n c ∧ n ≤ c := by
  rcases h with ⟨rfl, rfl, _⟩ | ⟨b, o, c, rfl, hc, _⟩
  · exact ⟨none, 0, rfl, Nat.le_refl _⟩
  · exact ⟨_, c, rfl, hc⟩
theorem Rd.at (h : Rd w v n xs) {j : Nat} {u : Value} (hj : xs[j]? = some u) : ∃ b o c, v = .slice (some ⟨b, o, none⟩) n c ∧ n ≤ c ∧ w.cell? ⟨b, o + j, none⟩ = some u := by
  rcases h with ⟨_, _, rfl⟩ | ⟨b, o, c, rfl, hc, hx⟩
  · simp at hj
  · exact ⟨b, o, c, rfl, hc, hx j u hj⟩
theorem Rd.of_own {base e size : Nat} (h : w.ownsRow base e size v n xs) : Rd w v n xs := by
  rcases h.2 with ⟨rfl, hn⟩ | ⟨g, cap, cur, rfl, _, hg, hc, _⟩
  · have hx : xs = [] := List.eq_nil_of_length_eq_zero (by rw [h.1, hn]; simp)
    subst hn hx
    exact .inl ⟨rfl, rfl, rfl⟩
  · refine .inr ⟨g, 0, cap, rfl, hc, fun j u hu => ?_⟩
    rw [Nat.zero_add]
    have := h.cells (g := g) rfl j u hu
    rwa [add_none, Nat.zero_add] at this
theorem Rd.one (w : World) (x : Value) (t : TypeId) : Rd (w.alloc (.cells #[x] t)) (.slice (some ⟨w.heap.size, 0, none⟩) 1 1) 1 [x] := by
  refine .inr ⟨_, 0, 1, rfl, Nat.le_refl _, fun j u hu => ?_⟩
  match j, hu with
  | 0, hu => simp at hu; subst hu; simp [go_sem]
theorem Rd.one' (w : World) (x : Value) (t : TypeId) (b : Nat) (hb : b = w.heap.size) : Rd (w.alloc (.cells #[x] t)) (.slice (some ⟨b, 0, none⟩) 1 1) 1 [x] := hb ▸ Rd.one w x t
theorem Rd.two (w : World) (x y : Value) (t : TypeId) : Rd (w.alloc (.cells #[x, y] t)) (.slice (some ⟨w.heap.size, 0, none⟩) 2 2) 2 [x, y] := by
  refine .inr ⟨_, 0, 2, rfl, Nat.le_refl _, fun j u hu => ?_⟩
  match j, hu with
  | 0, hu => simp at hu; subst hu; simp [go_sem]
  | 1, hu => simp at hu; subst hu; simp [go_sem]
theorem own_less {base base' e size : Nat} (h : w.ownsRow base e size v n xs) (hb : base' ≤ base) : w.ownsRow base' e size v n xs := by
  refine ⟨h.1, ?_⟩
  rcases h.2 with hn | ⟨g, cap, cur, hv, hg, rest⟩
  · exact .inl hn
  · exact .inr ⟨g, cap, cur, hv, Nat.le_trans hb hg, rest⟩
theorem own_blk {base e size : Nat} (h : w.ownsRow base e size v n xs) : ∀ k, v.ownBlock = some k → base ≤ k ∧ k < w.heap.size := h.lt
theorem own_type {base e size : Nat} (h : w.ownsRow base e size v n xs) : ∀ k, v.ownBlock = some k → ∃ cur, w.heap[k]? = some (.cells cur e (0, 0)) := by
  intro k hk
  rcases h.2 with ⟨rfl, _⟩ | ⟨g, cap, cur, rfl, _, hg, _⟩
  · cases hk
  · cases hk; exact ⟨cur, hg⟩
theorem own_ne {base e size : Nat} (h : w.ownsRow base e size v n xs) {b t : Nat} {cur : Array Value} {z : Nat × Nat} (hb : w.heap[b]? = some (.cells cur t z)) (ht : e ≠ t) : ∀ k, v.ownBlock = some k → k ≠ b := by
  rintro k hk rfl
  obtain ⟨cur', h'⟩ := own_type h k hk
  rw [hb] at h'
  simp only [Option.some.injEq, Obj.cells.injEq] at h'
  exact ht h'.2.1.symm
theorem ne_types {b b' t t' : Nat} {c c' : Array Value} {z z' : Nat × Nat} (h : w.heap[b]? = some (.cells c t z)) (h' : w.heap[b']? = some (.cells c' t' z')) (ht : t ≠ t') : b ≠ b' := by
  rintro rfl
  rw [h] at h'
  simp only [Option.some.injEq, Obj.cells.injEq] at h'
  exact ht h'.2.1
theorem own_at {base e size : Nat} (h : w.ownsRow base e size v n xs) {j : Nat} {u : Value} (hj : xs[j]? = some u) : ∃ g c, v = .slice (some ⟨g, 0, none⟩) n c ∧ n ≤ c ∧ w.cell? ⟨g, j, none⟩ = some u ∧ w.frozen? ⟨g, j, none⟩ = false := by
  rcases h.2 with ⟨rfl, hn⟩ | ⟨g, cap, cur, rfl, _, hg, hc, _⟩
  · have hx : xs = [] := List.eq_nil_of_length_eq_zero (by rw [h.1, hn]; simp)
    subst hx
    simp at hj
  · refine ⟨g, cap, rfl, hc, ?_, h.frozenAt j⟩
    have := h.cells (g := g) rfl j u hj
    rwa [add_none, Nat.zero_add] at this
theorem own_take {base e size : Nat} {g c m : Nat} (h : w.ownsRow base e size (.slice (some ⟨g, 0, none⟩) n c) n xs) (hm : m ≤ n) : w.ownsRow base e size (.slice (some ⟨g, 0, none⟩) m c) m (xs.take (m * size)) := by
  have hle : m * size ≤ n * size := Nat.mul_le_mul_right _ hm
  refine ⟨by rw [List.length_take, h.1]; omega, ?_⟩
  rcases h.2 with ⟨h', _⟩ | ⟨g', cap', cur, h', hb, hg, hnc, hcm, hcs, htake⟩
  · cases h'
  · simp only [Value.slice.injEq, Option.some.injEq, Addr.mk.injEq, and_true, true_and] at h'
    obtain ⟨rfl, rfl⟩ := h'
    exact .inr ⟨g, c, cur, rfl, hb, hg, by omega, hcm, hcs, by rw [← htake, List.take_take, Nat.min_eq_left hle]⟩
end

section
variable {P : Program} {w : World}
theorem run_append_rd (B : Nat) (t ty e : TypeId) (i : TypeInfo) (z : Value) (size bytes : Nat) (ht : P.underlying t = some (.slice e)) (hi : P.info? e = some i) (hz : i.zero = some z) (hsize : i.size = size) (hby : i.bytes = bytes)
    (hzs : z.cells.size = size) (hsz : 0 < size) (v : Value) (n : Nat) (xs : List Value) (hown : w.ownsRow B e size v n xs) (y : Value) (m : Nat) (ys : List Value) (hy : Rd w y m ys) (hl : ys.length = m * size) (h1 : ∀ u ∈ ys, u.oneCell' = true)
    (h63 : n + m ≤ maxLen) (hbytes : (n + m) * bytes ≤ 140737488355328) (hB : B ≤ w.heap.size) :
    ∃ v' w', (Builtin.append_ #[t, t] ty #[v, y]).run P w = .ok v' w' ∧ w'.ownsRow B e size v' (n + m) (xs ++ ys) ∧ w.grownBy w' v.ownBlock ∧ (v'.ownBlock = v.ownBlock ∨ v'.ownBlock = some w.heap.size) := by
  rcases hy with ⟨rfl, rfl, rfl⟩ | ⟨b, o, c, rfl, _, hc⟩
  · exact ⟨v, w, run_append_owned_none w B t ty e i size ht hi v _ _ hown, by simpa using hown, ⟨rfl, rfl, rfl, Nat.le_refl _, fun _ _ _ => rfl⟩, .inl rfl⟩
  · obtain ⟨v', w', hr, ho, hg, _, hat⟩ := run_append_own_at (P := P) w B t ty e i z size bytes ht hi hz hsize hby hzs hsz v n xs hown ⟨b, o, none⟩ m c ys hl (fun j u hu => by rw [add_none]; exact hc j u hu) h1 h63 hbytes hB
    exact ⟨v', w', hr, ho, hg, hat⟩

theorem wp_append_rd {o : Oper} {a : Act} {K : Act → World → Prop} {Q : Exit → Act → World → Prop} (s x : Operand) (t : TypeId)
    (ho : o.op = .call { callee := .builtin .append, args := #[s, x], argTypes := #[t, t] })
    (B : Nat) (e : TypeId) (i : TypeInfo) (z : Value) (size bytes : Nat) (ht : P.underlying t = some (.slice e)) (hi : P.info? e = some i) (hz : i.zero = some z) (hsize : i.size = size) (hby : i.bytes = bytes) (hzs : z.cells.size = size) (hsz : 0 < size)
    (v : Value) (n : Nat) (xs : List Value) (hs : a.eval s = v) (hown : w.ownsRow B e size v n xs) (y : Value) (m : Nat) (ys : List Value) (hx : a.eval x = y) (hy : Rd w y m ys) (hl : ys.length = m * size) (h1 : ∀ u ∈ ys, u.oneCell' = true)
    (h63 : n + m ≤ maxLen) (hbytes : (n + m) * bytes ≤ 140737488355328) (hB : B ≤ w.heap.size)
    (h : ∀ v' w', w'.ownsRow B e size v' (n + m) (xs ++ ys) → w.grownBy w' v.ownBlock → (v'.ownBlock = v.ownBlock ∨ v'.ownBlock = some w.heap.size) → K (a.put o.dst v') w') : o.wp P a w K Q := by
  obtain ⟨v', w', hrun, h2, h3, h4⟩ := run_append_rd (P := P) (w := w) B t o.type e i z size bytes ht hi hz hsize hby hzs hsz v n xs hown y m ys hy hl h1 h63 hbytes hB
  unfold Oper.wp execOp
  simp only [ho, resolve, invoke, builtin, Sem.run_bind, Sem.run_pure, Result.andThen_ok, List.map_toArray, List.map_cons, List.map_nil, hs, hx, hrun]
  exact h v' w' h2 h3 h4
theorem wpList_append_rd {ops : Array Oper} {rest : List Oper} {o : Oper} {a : Act} {Q : Exit → Act → World → Prop} (hgd : o.guard = none) (s x : Operand) (t : TypeId)
    (ho : o.op = .call { callee := .builtin .append, args := #[s, x], argTypes := #[t, t] })
    (B : Nat) (e : TypeId) (i : TypeInfo) (z : Value) (size bytes : Nat) (ht : P.underlying t = some (.slice e)) (hi : P.info? e = some i) (hz : i.zero = some z) (hsize : i.size = size) (hby : i.bytes = bytes) (hzs : z.cells.size = size) (hsz : 0 < size)
    (v : Value) (n : Nat) (xs : List Value) (hs : a.eval s = v) (hown : w.ownsRow B e size v n xs) (y : Value) (m : Nat) (ys : List Value) (hx : a.eval x = y) (hy : Rd w y m ys) (hl : ys.length = m * size) (h1 : ∀ u ∈ ys, u.oneCell' = true)
    (h63 : n + m ≤ maxLen) (hbytes : (n + m) * bytes ≤ 140737488355328) (hB : B ≤ w.heap.size)
    (h : ∀ v' w', w'.ownsRow B e size v' (n + m) (xs ++ ys) → w.grownBy w' v.ownBlock → (v'.ownBlock = v.ownBlock ∨ v'.ownBlock = some w.heap.size) → wpList P ops Q rest (a.put o.dst v') w') : wpList P ops Q (o :: rest) a w :=
  wpList_plain hgd fun _ hK => wp_append_rd s x t ho B e i z size bytes ht hi hz hsize hby hzs hsz v n xs hs hown y m ys hx hy hl h1 h63 hbytes hB fun v' w' h2 h3 h4 => hK _ _ (h v' w' h2 h3 h4)

theorem step_append_rd {ops : Array Oper} {o : Oper} {a : Act} {K : Act → World → Prop} {Q : Exit → Act → World → Prop} {E : Prop} (hgd : o.guard = none) (s x : Operand) (t : TypeId)
    (ho : o.op = .call { callee := .builtin .append, args := #[s, x], argTypes := #[t, t] })
    (B : Nat) (e : TypeId) (i : TypeInfo) (z : Value) (size bytes : Nat) (ht : P.underlying t = some (.slice e)) (hi : P.info? e = some i) (hz : i.zero = some z) (hsize : i.size = size) (hby : i.bytes = bytes) (hzs : z.cells.size = size) (hsz : 0 < size)
    (v : Value) (n : Nat) (xs : List Value) (hs : a.eval s = v) (hown : w.ownsRow B e size v n xs) (y : Value) (m : Nat) (ys : List Value) (hx : a.eval x = y) (hy : Rd w y m ys) (hl : ys.length = m * size) (h1 : ∀ u ∈ ys, u.oneCell' = true)
    (h63 : n + m ≤ maxLen) (hbytes : (n + m) * bytes ≤ 140737488355328) (hB : B ≤ w.heap.size)
    (h : ∀ v' w', w'.ownsRow B e size v' (n + m) (xs ++ ys) → w.grownBy w' v.ownBlock → (v'.ownBlock = v.ownBlock ∨ v'.ownBlock = some w.heap.size) → K (a.put o.dst v') w') :
    if Region.wanted o (yielded ops a.tmps) = true then Oper.wp P o a w K Q else E := by
  have hw : Region.wanted o (yielded ops a.tmps) = true := by simp [Region.wanted, hgd]
  rw [if_pos hw]
  exact wp_append_rd s x t ho B e i z size bytes ht hi hz hsize hby hzs hsz v n xs hs hown y m ys hx hy hl h1 h63 hbytes hB h
theorem step_call {ops : Array Oper} {o : Oper} {a : Act} {K : Act → World → Prop} {Q : Exit → Act → World → Prop} {E : Prop} (hgd : o.guard = none) (f : FuncId) (args : Array Value) (hrun : (execOp a.eval o).run P w = .ok (.enter f args) w)
    {R : Value → World → Prop} (hc : Calls P f args w fun e w' => ∃ v, e = .returned v ∧ R v w') (h : ∀ v w', R v w' → K (a.put o.dst v) w') : if Region.wanted o (yielded ops a.tmps) = true then Oper.wp P o a w K Q else E := by
  have hw : Region.wanted o (yielded ops a.tmps) = true := by simp [Region.wanted, hgd]
  rw [if_pos hw]
  unfold Oper.wp
  rw [hrun, Oper.upon_enter]
  refine hc.mono fun e w' hh => ?_
  obtain ⟨v, rfl, hR⟩ := hh
  exact h v w' hR
end

end Go.Proofs.YtdddhmipifkepaaGreat

namespace Go.Proofs.YtdddhmipifkepaaGreat
set_option maxRecDepth 100000
open Go Go.RowKit

section
variable {α : Type} {P : Program}

structure Books (D : Nat) (r : Loop) (W : World) : Prop where
  row : W.heap[D + 1]? = some (.loop r)
  def' : W.heap[D]? = some (.deferred (some []))

theorem Books.below {D : Nat} {r : Loop} {A B : World} (h : Books D r A) (g : Below A.heap.size A B) : Books D r B :=
  ⟨(g.block _ (Array.getElem?_eq_some_iff.1 h.row).1).trans h.row, (g.block _ (Array.getElem?_eq_some_iff.1 h.def').1).trans h.def'⟩
theorem Books.keeps {D : Nat} {r : Loop} {A B : World} (h : Books D r A) (g : KeepsOthers A B) : Books D r B := ⟨g.same _ _ h.row rfl, g.same _ _ h.def' rfl⟩
theorem Books.put {D : Nat} {r : Loop} {A : World} (h : Books D r A) (r' : Loop) : Books D r' (A.putObj (D + 1) (.loop r')) :=
  ⟨World.putObj_heap_same (Array.getElem?_eq_some_iff.1 h.row).1, (World.putObj_heap_other (by omega)).trans h.def'⟩

theorem below_own {B : Nat} {I : Nat → World → Prop} (h : OwnFrom B I) {i : Nat} {A C : World} (hI : I i A) (g : Below A.heap.size A C) : I i C :=
  h i A C none hI (grownBy_below g none) (fun r e => by cases e)

end

end Go.Proofs.YtdddhmipifkepaaGreat

namespace Go.Proofs.YtdddhmipifkepaaGreat
set_option maxRecDepth 100000
open Go Go.RowKit

section
variable {α : Type} {P : Program}
def Gives8 (P : Program) (f : FuncId) (args : Value → Array Value) (encs : α → Array Value) (Kp : World → World → Prop) (xs : List α) (w : World) : Prop :=
  ∀ (l : Nat) (J Jx : Nat → World → Prop) (W : World), Below w.heap.size w W → (∀ i A B, J i A → Below A.heap.size A B → J i B) → (∀ i A B, Jx i A → Below A.heap.size A B → Jx i B) →
    (∀ i x A, xs[i]? = some x → J i A → YieldAt Fence.wide 0 P l (encs x) A fun e B => (e = .returned (.bool true) ∧ J (i + 1) B ∧ Kp A B) ∨ (e = .returned (.bool false) ∧ Jx (i + 1) B ∧ Kp A B)) →
    J 0 W → Calls P f (args (.func (.yield l) #[] #[])) W fun e B => (∃ v, e = .returned v) ∧ (J xs.length B ∨ ∃ i, i ≤ xs.length ∧ Jx i B)

end

end Go.Proofs.YtdddhmipifkepaaGreat

namespace Go.Proofs.YtdddhmipifkepaaGreat
set_option maxRecDepth 100000
open Go Go.RowKit

section
variable {α : Type} {P : Program}
end

end Go.Proofs.YtdddhmipifkepaaGreat

namespace Go.Proofs.YtdddhmipifkepaaGreat
set_option maxRecDepth 100000
open Go Go.RowKit

section
variable {α : Type} {P : Program}
def GivesL (P : Program) (f : FuncId) (args : Value → Array Value) (encs : α → Array Value) (Kp : Nat → World → World → Prop) (xs : List α) (w : World) : Prop :=
  ∀ (l : Nat) (J Jx : Nat → World → Prop) (W : World), Below w.heap.size w W → w.heap.size ≤ l → l < W.heap.size → OwnFrom W.heap.size J → OwnFrom W.heap.size Jx →
    (∀ i x A, xs[i]? = some x → J i A → YieldAt Fence.wide 0 P l (encs x) A fun e B => (e = .returned (.bool true) ∧ J (i + 1) B ∧ Kp l A B) ∨ (e = .returned (.bool false) ∧ Jx (i + 1) B ∧ Kp l A B)) →
    J 0 W → Calls P f (args (.func (.yield l) #[] #[])) W fun e B => (∃ v, e = .returned v) ∧ (J xs.length B ∨ ∃ i, i ≤ xs.length ∧ Jx i B)
theorem Gives8.toL {f : FuncId} {args : Value → Array Value} {encs : α → Array Value} {Kp : World → World → Prop} {KpL : Nat → World → World → Prop} {xs : List α} {w : World} (h : Gives8 P f args encs Kp xs w) (hK : ∀ l A B, KpL l A B → Kp A B) : GivesL P f args encs KpL xs w := by
  intro l J Jx W hW _ _ hJ hJx hY h0
  refine h l J Jx W hW (fun i A B hj hb => below_own hJ hj hb) (fun i A B hj hb => below_own hJx hj hb) (fun i x A hx hj => (hY i x A hx hj).mono ?_) h0
  rintro e B (⟨h1, h2, h3⟩ | ⟨h1, h2, h3⟩)
  · exact .inl ⟨h1, h2, hK _ _ _ h3⟩
  · exact .inr ⟨h1, h2, hK _ _ _ h3⟩
theorem GivesL.mono {f : FuncId} {args : Value → Array Value} {encs : α → Array Value} {Kp KpL : Nat → World → World → Prop} {xs : List α} {w : World} (h : GivesL P f args encs Kp xs w) (hK : ∀ l A B, KpL l A B → Kp l A B) : GivesL P f args encs KpL xs w := by
  intro l J Jx W hW h1 h2 hJ hJx hY h0
  refine h l J Jx W hW h1 h2 hJ hJx (fun i x A hx hj => (hY i x A hx hj).mono ?_) h0
  rintro e B (⟨h1, h2, h3⟩ | ⟨h1, h2, h3⟩)
  · exact .inl ⟨h1, h2, hK _ _ _ h3⟩
  · exact .inr ⟨h1, h2, hK _ _ _ h3⟩
def roundOfL (D : Nat) (Kp : World → World → Prop) (I : Nat → World → Prop) (Ix : Code → Nat → World → Prop) (i : Nat) (A : World) : Exit → Act → World → Prop
  | .normal, _, B => KeepsFrom D A B ∧ Kp A B ∧ I i B
  | .ret, _, B => KeepsFrom D A B ∧ Kp A B ∧ Ix .ret i B
  | .exit k, _, B => KeepsFrom D A B ∧ Kp A B ∧ Ix (.exit k) i B
  | .goto k, _, B => KeepsFrom D A B ∧ Kp A B ∧ Ix (.goto k) i B
  | .panic _, _, _ => False
  | .outgrown, _, _ => False
theorem Books.own {D : Nat} {r : Loop} {A B : World} {N : Nat} {row : Option Nat} (h : Books D r A) (hN : D + 1 < N) (hg : A.grownBy B row) (hr : ∀ r, row = some r → N ≤ r ∧ ∃ o : Obj, A.heap[r]? = some o ∧ o.isCells = false) : Books D r B :=
  ⟨(hg.block _ (Array.getElem?_eq_some_iff.1 h.row).1 (fun e => by have := (hr _ e.symm).1; omega)).trans h.row, (hg.block _ (Array.getElem?_eq_some_iff.1 h.def').1 (fun e => by have := (hr _ e.symm).1; omega)).trans h.def'⟩
theorem Books.from {D : Nat} {r : Loop} {A B : World} (h : Books D r A) (g : KeepsFrom D A B) : Books D r B := ⟨g.same _ _ (Nat.le_succ _) h.row rfl, g.same _ _ (Nat.le_refl _) h.def' rfl⟩

theorem wp_rangeL {g : Operand} {ps : Array Tmp} {assign body : Code} {Q : Exit → Act → World → Prop} {a : Act} {w : World} {f : FuncId} {first last : Array Value}
    (hg : a.eval g = .func (.func f) first last) (hf : ∀ (args : Array Value) (w : World), (callFunc f args).run P w = .ok (.enter f args) w) {encs : α → Array Value} {Kp : Nat → World → World → Prop} {xs : List α} (hps : ∀ x, (encs x).size = ps.size)
    (hseq : GivesL P f (fun v => first ++ #[v] ++ last) encs Kp xs w)
    (hKt : ∀ {A B C : World}, Kp (w.heap.size + 1) A B → Kp (w.heap.size + 1) B C → Kp (w.heap.size + 1) A C) (hKb : ∀ (W : World) (o o' : Obj), W.heap[w.heap.size + 1]? = some o → o.isCells = false → Kp (w.heap.size + 1) W (W.putObj (w.heap.size + 1) o'))
    (I : Nat → World → Prop) (Ix : Code → Nat → World → Prop) (hI : OwnFrom w.heap.size I) (hIx : ∀ c, OwnFrom w.heap.size (Ix c)) (h0 : I 0 w)
    (hKB : ∀ A B : World, Below A.heap.size A B → Kp (w.heap.size + 1) A B)
    (hround : ∀ (l i : Nat) (x : α) (W : World), xs[i]? = some x → I i W → w.heap.size ≤ W.heap.size → assign.wpIn (Fence.wide.inRound l) 0 P (Exit.then (fun a₁ Wa => Below W.heap.size W Wa ∧ ∃ J : Nat → World → Prop, OwnFrom w.heap.size J ∧ J i Wa ∧ ∀ W', J i W' → Wa.heap.size ≤ W'.heap.size → body.wpIn (Fence.wide.inRound l) 0 P (roundOfL w.heap.size (Kp (w.heap.size + 1)) I Ix (i + 1) W') a₁ W') (fun _ _ _ => False)) { tmps := (ps.zip (encs x)).foldl (fun t (p, v) => t.setIfInBounds p v) a.tmps, defers := [] } W)
    (hdone : ∀ (D : Nat) (W : World), w.heap.size ≤ D → I xs.length W → W.heap[D]? = some (.deferred (some [])) → Q .normal { a with defers := { target := .collected D, args := #[] } :: a.defers } W)
    (hstop : ∀ (D : Nat) (c : Code) (i : Nat) (W : World), w.heap.size ≤ D → i ≤ xs.length → Ix c i W → W.heap[D]? = some (.deferred (some [])) → c.wp P Q { a with defers := { target := .collected D, args := #[] } :: a.defers } W) :
    (Code.rangeFunc g ps assign body).wp P Q a w := by
  refine (wpIn_wide (n := 1)).1 (wpIn_rangeFunc fun fn hfn => ?_)
  obtain ⟨rec, hrec⟩ : ∃ rec : LoopState → Option Code → Loop, rec = fun st pe => { state := st, pending := pe, fn, tmps := a.tmps, params := ps, assign, body, defers := w.heap.size } := ⟨_, rfl⟩
  obtain ⟨W1, hW1⟩ : ∃ W1, W1 = (w.alloc (.deferred (some []))).alloc (.loop (rec .ready none)) := ⟨_, rfl⟩
  have hb1 : Below w.heap.size w W1 := by rw [hW1]; exact ((Below.refl _ w).alloc (Nat.le_refl _) _).alloc (by simp) _
  have hB1 : Books w.heap.size (rec .ready none) W1 := by
    rw [hW1]
    refine ⟨?_, (Below.heap_alloc _ _ _ (by simp)).trans (World.alloc_heap_new w _)⟩
    have := World.alloc_heap_new (w.alloc (.deferred (some []))) (.loop (rec .ready none))
    rwa [World.size_alloc] at this
  have hl1 : w.heap.size + 1 < W1.heap.size := (Array.getElem?_eq_some_iff.1 hB1.row).1
  refine ⟨w.heap.size + 1, [{ target := .collected w.heap.size, args := #[] }], W1, { target := .fn (.func f) last, args := first ++ #[.func (.yield (w.heap.size + 1)) #[] #[]] }, W1, f, first ++ #[.func (.yield (w.heap.size + 1)) #[] #[]] ++ last, W1, ?_, ?_, fun _ _ => trivial, ?_, fun _ => Nat.le_refl 1, ?_⟩
  · rw [hW1, hrec]; exact run_enterLoop_outer _ _ _ _ _
  · simp only [resolve, hg]
    simp [go_sem, Deferred.ofValue]
  · simp only [invoke]
    exact hf _ _
  · refine callsIn_wide.2 ((hseq (w.heap.size + 1) (fun i W => I i W ∧ Books w.heap.size (rec .ready none) W) (fun i W => ∃ c, Ix c i W ∧ Books w.heap.size (rec .done (some c)) W) W1 hb1
      (Nat.le_succ _) hl1 (fun i A B row h hg hr => ⟨hI i A B row h.1 hg (fun r e => ⟨Nat.le_trans hb1.size (hr r e).1, (hr r e).2⟩), h.2.own hl1 hg hr⟩) (fun i A B row ⟨c, h, hk⟩ hg hr => ⟨c, hIx c i A B row h hg (fun r e => ⟨Nat.le_trans hb1.size (hr r e).1, (hr r e).2⟩), hk.own hl1 hg hr⟩) ?_ ⟨below_own hI h0 hb1, hB1⟩).mono ?_)
    · rintro i x W hx ⟨hi, hk⟩
      have hlt : w.heap.size + 1 < W.heap.size := (Array.getElem?_eq_some_iff.1 hk.row).1
      have hy := run_yield (P := P) (args := encs x) hk.row (by rw [hrec]; exact hps x)
      rw [hrec] at hy
      have hszW : w.heap.size ≤ W.heap.size := by omega
      refine ⟨fn, _, assign, body, hy, roundIn_of_wpIn hfn (wpIn_mono (hround (w.heap.size + 1) i x W hx hi hszW) ?_)⟩
      rintro (_ | _ | _ | _ | _ | _) a1 Wa ha <;> first | exact ha.elim | skip
      obtain ⟨hbl, J, hJ, hj, hwalk⟩ := ha
      have hk' := hk.below hbl
      have hbegin := run_beginRound (P := P) hk'.row (by rw [hrec])
      have hk2 := hk'.put { rec .ready none with state := .busy }
      have hp2 : Kp (w.heap.size + 1) Wa (Wa.putObj (w.heap.size + 1) (.loop { rec .ready none with state := .busy })) := hKb _ _ _ hk'.row rfl
      have hj2 := hJ.putObj (.loop { rec .ready none with state := .busy }) hj (Nat.le_succ _) hk'.row rfl
      have hsz : Wa.heap.size ≤ (Wa.putObj (w.heap.size + 1) (.loop { rec .ready none with state := .busy })).heap.size := by
        simp [World.putObj]
      have hend : ∀ (j : Option Code) (B : World), KeepsFrom w.heap.size (Wa.putObj (w.heap.size + 1) (.loop { rec .ready none with state := .busy })) B →
          (Instr.endRound (w.heap.size + 1) j).run P B = .ok (.bool j.isNone) (B.putObj (w.heap.size + 1) (.loop (rec (if j.isNone then .ready else .done) j))) ∧ Books w.heap.size { rec .ready none with state := .busy } B := fun j B hB => by
        have hk3 := hk2.from hB
        refine ⟨?_, hk3⟩
        have := run_endRound (P := P) j hk3.row
        rw [hrec] at this ⊢
        exact this
      refine ⟨_, hbegin, wpIn_mono (hwalk _ hj2 hsz) ?_⟩
      intro e a3 B hp
      cases e with
      | normal =>
        obtain ⟨hkp, hK, hI3⟩ := hp
        obtain ⟨hr, hk3⟩ := hend none B hkp
        exact ⟨_, _, hr, .inl ⟨rfl, ⟨hI.putObj _ hI3 (Nat.le_succ _) hk3.row rfl, hk3.put _⟩, hKt (hKt (hKt (hKB _ _ hbl) hp2) hK) (hKb _ _ _ hk3.row rfl)⟩⟩
      | ret =>
        obtain ⟨hkp, hK, hI3⟩ := hp
        obtain ⟨hr, hk3⟩ := hend (some .ret) B hkp
        exact ⟨_, _, hr, .inr ⟨rfl, ⟨.ret, (hIx _).putObj _ hI3 (Nat.le_succ _) hk3.row rfl, hk3.put _⟩, hKt (hKt (hKt (hKB _ _ hbl) hp2) hK) (hKb _ _ _ hk3.row rfl)⟩⟩
      | exit k =>
        obtain ⟨hkp, hK, hI3⟩ := hp
        obtain ⟨hr, hk3⟩ := hend (some (.exit k)) B hkp
        exact ⟨_, _, hr, .inr ⟨rfl, ⟨.exit k, (hIx _).putObj _ hI3 (Nat.le_succ _) hk3.row rfl, hk3.put _⟩, hKt (hKt (hKt (hKB _ _ hbl) hp2) hK) (hKb _ _ _ hk3.row rfl)⟩⟩
      | goto k =>
        obtain ⟨hkp, hK, hI3⟩ := hp
        obtain ⟨hr, hk3⟩ := hend (some (.goto k)) B hkp
        exact ⟨_, _, hr, .inr ⟨rfl, ⟨.goto k, (hIx _).putObj _ hI3 (Nat.le_succ _) hk3.row rfl, hk3.put _⟩, hKt (hKt (hKt (hKB _ _ hbl) hp2) hK) (hKb _ _ _ hk3.row rfl)⟩⟩
      | panic _ => exact hp.elim
      | outgrown => exact hp.elim
    · rintro e B ⟨⟨v, rfl⟩, ⟨hi, hk⟩ | ⟨i, hle, c, hi, hk⟩⟩
      · have hr := run_endLoop (P := P) hk.row (by rw [hrec]; simp)
        exact ⟨none, _, by rw [hr, hrec], hdone _ _ (Nat.le_refl _) (hI.putObj _ hi (Nat.le_succ _) hk.row rfl) ((World.putObj_heap_other (by omega)).trans hk.def')⟩
      · have hr := run_endLoop (P := P) hk.row (by rw [hrec]; simp)
        exact ⟨some c, _, by rw [hr, hrec], wpIn_wide.2 (hstop _ c i _ (Nat.le_refl _) hle ((hIx c).putObj _ hi (Nat.le_succ _) hk.row rfl) ((World.putObj_heap_other (by omega)).trans hk.def'))⟩
end

end Go.Proofs.YtdddhmipifkepaaGreat

namespace Go.Proofs.YtdddhmipifkepaaGreat
open Go.RowKit

theorem own_set1 {w : World} {base t size g n cp j : Nat} {xs : List Value} (h : w.ownsRow base t size (.slice (some ⟨g, 0, none⟩) n cp) n xs) (_hj : j < n * size) (u : Value) : (w.setCell ⟨g, j, none⟩ u).ownsRow base t size (.slice (some ⟨g, 0, none⟩) n cp) n (xs.set j u) := by
  obtain ⟨h1, h2⟩ := h
  refine ⟨by rw [List.length_set]; exact h1, ?_⟩
  rcases h2 with ⟨e, _⟩ | ⟨g', cap, cur, e, hb, hg, hc, hm, hs, ht⟩
  · cases e
  · simp only [Value.slice.injEq, Option.some.injEq, Addr.mk.injEq, and_true, true_and] at e
    obtain ⟨rfl, rfl⟩ := e
    refine .inr ⟨g, cp, _, rfl, hb, heap_setCell_same w g j _ _ u hg, hc, hm, by rw [Array.size_setIfInBounds]; exact hs, ?_⟩
    rw [Array.toList_setIfInBounds, List.take_set, ht]
theorem own_sets {base t size g n cp : Nat} : ∀ (us : List Value) (o : Nat) (w : World) (xs : List Value), w.ownsRow base t size (.slice (some ⟨g, 0, none⟩) n cp) n xs → o + us.length ≤ n * size → ∃ ys, (w.setCells g o us).ownsRow base t size (.slice (some ⟨g, 0, none⟩) n cp) n ys ∧ ys.length = xs.length ∧ ∀ j, ys[j]? = if o ≤ j ∧ j < o + us.length then us[j - o]? else xs[j]?
  | [], o, w, xs, h, _ => ⟨xs, h, rfl, fun j => by rw [if_neg (fun h => by simp only [List.length_nil] at h; omega)]⟩
  | u :: us, o, w, xs, h, hl => by
    simp only [List.length_cons] at hl
    have h1 := own_set1 h (show o < n * size by omega) u
    obtain ⟨ys, h2, h3, h4⟩ := own_sets us (o + 1) _ _ h1 (by omega)
    refine ⟨ys, h2, by rw [h3, List.length_set], fun j => ?_⟩
    have hxl : xs.length = n * size := h.1
    rw [h4 j]
    simp only [List.length_cons]
    by_cases e : j = o
    · subst e
      rw [if_neg (by omega), if_pos (by omega), List.getElem?_set_self (by omega), Nat.sub_self]
      rfl
    · by_cases e2 : o + 1 ≤ j ∧ j < o + 1 + us.length
      · rw [if_pos e2, if_pos (by omega), show j - o = (j - (o + 1)) + 1 by omega]
        rfl
      · rw [if_neg e2, if_neg (by omega), List.getElem?_set_ne (Ne.symm e)]
theorem own_first {w : World} {base t size g n m cp : Nat} {xs : List Value} (h : w.ownsRow base t size (.slice (some ⟨g, 0, none⟩) n cp) n xs) (hm : m ≤ n) : w.ownsRow base t size (.slice (some ⟨g, 0, none⟩) m cp) m (xs.take (m * size)) := by
  obtain ⟨h1, h2⟩ := h
  have hms : m * size ≤ n * size := Nat.mul_le_mul_right _ hm
  refine ⟨by rw [List.length_take]; omega, ?_⟩
  rcases h2 with ⟨e, _⟩ | ⟨g', cap, cur, e, hb, hg, hc, hmx, hs, ht⟩
  · cases e
  · simp only [Value.slice.injEq, Option.some.injEq, Addr.mk.injEq, and_true, true_and] at e
    obtain ⟨rfl, rfl⟩ := e
    exact .inr ⟨g, cp, cur, rfl, hb, hg, by omega, hmx, hs, by rw [← ht, List.take_take, Nat.min_eq_left hms]⟩
theorem own_more {w : World} {base t size g n m cp : Nat} {xs : List Value} (h : w.ownsRow base t size (.slice (some ⟨g, 0, none⟩) n cp) n xs) (hm : n + m ≤ cp) : ∃ ys, w.ownsRow base t size (.slice (some ⟨g, 0, none⟩) (n + m) cp) (n + m) ys ∧ ys.take (n * size) = xs := by
  obtain ⟨h1, h2⟩ := h
  have hms : n * size ≤ (n + m) * size := Nat.mul_le_mul_right _ (by omega)
  rcases h2 with ⟨e, _⟩ | ⟨g', cap, cur, e, hb, hg, hc, hmx, hs, ht⟩
  · cases e
  · simp only [Value.slice.injEq, Option.some.injEq, Addr.mk.injEq, and_true, true_and] at e
    obtain ⟨rfl, rfl⟩ := e
    have hcs : (n + m) * size ≤ cp * size := Nat.mul_le_mul_right _ hm
    exact ⟨cur.toList.take ((n + m) * size), ⟨by rw [List.length_take, Array.length_toList, hs, Nat.min_eq_left hcs], .inr ⟨g, cp, cur, rfl, hb, hg, hm, hmx, hs, rfl⟩⟩, by rw [List.take_take, Nat.min_eq_left hms, ht]⟩
theorem own_cap {w : World} {base t size g n cp : Nat} {xs : List Value} (h : w.ownsRow base t size (.slice (some ⟨g, 0, none⟩) n cp) n xs) : n ≤ cp ∧ cp ≤ 9223372036854775807 := by
  rcases h.2 with ⟨e, _⟩ | ⟨g', cap, cur, e, _, _, hc, hm, _⟩
  · cases e
  · simp only [Value.slice.injEq, Option.some.injEq, Addr.mk.injEq, and_true, true_and] at e
    rw [e.2]
    exact ⟨hc, by unfold maxLen at hm; omega⟩
theorem own_shape {w : World} {base t size g n cp : Nat} {xs : List Value} (h : w.ownsRow base t size (.slice (some ⟨g, 0, none⟩) n cp) n xs) : w.shape? g = some (t, cp * size) ∧ ∀ j, w.frozen? ⟨g, j, none⟩ = false := by
  have hf := h.frozenAt
  rcases h.2 with ⟨e, _⟩ | ⟨g', cap, cur, e, hb, hg, hc, hm, hs, ht⟩
  · cases e
  · simp only [Value.slice.injEq, Option.some.injEq, Addr.mk.injEq, and_true, true_and] at e
    obtain ⟨rfl, rfl⟩ := e
    exact ⟨by unfold World.shape?; rw [hg]; simp [hs], fun j => hf j⟩
theorem Kp.sets {w : World} {F : Nat → Prop} {g : Nat} (hg : F g ∨ w.heap.size ≤ g) : ∀ (us : List Value) (o : Nat) (w' : World), Kp F w w' → Kp F w (w'.setCells g o us)
  | [], _, _, h => h
  | u :: us, o, _, h => Kp.sets hg us (o + 1) _ (h.setCell hg u)
theorem run_copy_cellsN {P : Program} (w : World) (dT sT ty elem : TypeId) (sz b o dLen dCap : Nat) (a : Addr) (sLen sCap : Nat) (cs : List Value)
    (hu : P.underlying dT = some (.slice elem)) (hs : (P.info? elem).map (·.size) = some sz) (hn : cs.length = Nat.min sLen dLen * sz)
    (hsrc : ∀ j v, cs[j]? = some v → w.cell? (a.add j) = some v) (hc : ∀ j, j < cs.length → (w.cell? ⟨b, o + j, none⟩).isSome = true) (hf : ∀ j, j < cs.length → w.frozen? ⟨b, o + j, none⟩ = false) (h1 : ∀ v ∈ cs, v.oneCell' = true) :
    (Builtin.copy_ #[dT, sT] ty #[.slice (some ⟨b, o, none⟩) dLen dCap, .slice (some a) sLen sCap]).run P w = .ok (goInt (Nat.min sLen dLen : Nat)) (w.setCells b o cs) := by
  have hl := run_firstCells_some (P := P) (w := w) sz (Nat.min sLen dLen) a sLen sCap cs hn hsrc
  have hst := run_storeCells_cells (P := P) b o cs 0 w (by simpa using hc) (by simpa using hf) h1
  cases hq : P.info? elem with
  | none => simp [hq] at hs
  | some i =>
    have hi : i.size = sz := by simpa [hq] using hs
    simp [Builtin.copy_, run_underlying hu, Builtin.lenOf, sizeOf, typeInfo, hq, hi, hl, hst]
theorem ins_eq (xs ys zs : List Value) (a : Nat) (ha : a ≤ xs.length)
    (h1 : ∀ j, j < a → zs[j]? = xs[j]?) (h2 : ∀ j, j < ys.length → zs[a + j]? = ys[j]?) (h3 : ∀ j, zs[a + ys.length + j]? = xs[a + j]?) : zs = xs.take a ++ ys ++ xs.drop a := by
  have l1 : (xs.take a).length = a := by rw [List.length_take, Nat.min_eq_left ha]
  apply List.ext_getElem?
  intro j
  by_cases c1 : j < a
  · rw [h1 j c1, List.append_assoc, List.getElem?_append_left (by rw [l1]; exact c1), List.getElem?_take_of_lt c1]
  · by_cases c2 : j < a + ys.length
    · have := h2 (j - a) (by omega)
      rw [show a + (j - a) = j by omega] at this
      rw [this, List.getElem?_append_left (by rw [List.length_append, l1]; exact c2), List.getElem?_append_right (by rw [l1]; omega), l1]
    · have := h3 (j - (a + ys.length))
      rw [show a + ys.length + (j - (a + ys.length)) = j by omega] at this
      rw [this, List.getElem?_append_right (by rw [List.length_append, l1]; omega), List.length_append, l1, List.getElem?_drop]

end Go.Proofs.YtdddhmipifkepaaGreat

/- Several texts in one. -/
import Derived.WalkKit
import Derived.ProofKit
import Derived.BigQuiet
import Derived.Maps.AppendAt
import Derived.Maps.Range
import Derived.Laws.OwnMore
import Derived.OwnWalk
import Derived.Deep.RegionLaw
import Derived.Lib.Hide
import Derived.Lib.SliceRun
import Derived.Laws.IdiomCopy
import Derived.Test.YtghbbpbhbinioaaGreatProg
import Derived.OpenShut
import Derived.ShutString
import Derived.Lib.SmallJoins
import Derived.SizedLaws
import Derived.Lib.AppendZerosOnto
import Derived.Lib.Overlaps
import Derived.Laws.Externs
import Derived.Shelf.Spec.SlicesInsert
import GoSem.Claim
import Derived.Laws.StructEq
namespace Go.Proofs.YtghbbpbhbinioaaGreat
open Go.RowKit

structure Gw (w w' : World) : Prop where
  below : Below w.heap.size w w'
  frozen : ∀ a, w'.frozen? a = w.frozen? a

theorem Gw.refl (w : World) : Gw w w := ⟨Below.refl _ _, fun _ => rfl⟩
theorem Gw.trans {a b c : World} (h : Gw a b) (k : Gw b c) : Gw a c :=
  ⟨h.below.trans (k.below.mono h.below.size), fun x => (k.frozen x).trans (h.frozen x)⟩
theorem Gw.alloc {a w : World} (h : Gw a w) (c : Array Value) (t : TypeId) : Gw a (w.alloc (.cells c t)) :=
  ⟨h.below.alloc h.below.size _, fun x => (frozen?_alloc_cells _ _ _ x).trans (h.frozen x)⟩
theorem Gw.setCell {a w : World} (h : Gw a w) {p : Addr} (hp : a.heap.size ≤ p.block) (v : Value) : Gw a (w.setCell p v) :=
  ⟨h.below.setCell hp v, fun x => (World.frozen?_setCell _ _ _ _).trans (h.frozen x)⟩
theorem Gw.drew {a w : World} (h : Gw a w) : Gw a w.drew := ⟨h.below.drew, h.frozen⟩
theorem Gw.drewN {a w : World} (h : Gw a w) (n : Nat) : Gw a (w.drewN n) := ⟨⟨h.below.os, h.below.tape, h.below.output, h.below.size, h.below.block⟩, h.frozen⟩
theorem Gw.frame {w w' : World} (h : Gw w w') (may : MemPlace → Prop) : w.keptBut w' may := h.below.frame may
theorem Gw.cell {w w' : World} (h : Gw w w') {b o : Nat} (hb : b < w.heap.size) : w'.cell? ⟨b, o, none⟩ = w.cell? ⟨b, o, none⟩ := h.below.cell (p := ⟨b, o, none⟩) hb
theorem Gw.size {w w' : World} (h : Gw w w') : w.heap.size ≤ w'.heap.size := h.below.size
structure Gr (w : World) where
  at' : World
  grown : Gw w at'
instance (w : World) : Nonempty (Gr w) := ⟨⟨w, Gw.refl w⟩⟩

theorem Gr.cell {w : World} {b o : Nat} {v : Value} (hc : w.cell? ⟨b, o, none⟩ = some v) (hb : b < w.heap.size) (g : Gr w) : g.at'.cell? ⟨b, o, none⟩ = some v := by
  rw [g.grown.cell hb, hc]

theorem Gr.box3 (w : World) (c0 c1 c2 : Value) (t : TypeId) : (∀ g : Gr (w.alloc (.cells #[c0, c1, c2] t)), g.at'.cell? ⟨w.heap.size, 0, none⟩ = some c0) ∧ (∀ g : Gr (w.alloc (.cells #[c0, c1, c2] t)), g.at'.cell? ⟨w.heap.size, 1, none⟩ = some c1) ∧ (∀ g : Gr (w.alloc (.cells #[c0, c1, c2] t)), g.at'.cell? ⟨w.heap.size, 2, none⟩ = some c2) :=
  ⟨Gr.cell (by simp [go_sem]) (by simp), Gr.cell (by simp [go_sem]) (by simp), Gr.cell (by simp [go_sem]) (by simp)⟩

theorem Gr.calls {P : Program} {f : FuncId} {args : Array Value} {w : World} {v : Value} (g : Gr w)
    (h : Calls P f args g.at' fun e w' => e = .returned v ∧ Gw g.at' w') : Calls P f args g.at' fun e w'' => e = .returned v ∧ ∃ g' : Gr w, w'' = g'.at' :=
  h.mono fun _ _ ⟨he, hm⟩ => ⟨he, ⟨_, g.grown.trans hm⟩, rfl⟩

theorem grownBy_setCell (w : World) (b o : Nat) (u : Value) : w.grownBy (w.setCell ⟨b, o, none⟩ u) (some b) :=
  ⟨rfl, rfl, rfl, by simp [World.setCell], fun k _ hk => Below.heap_setCell w ⟨b, o, none⟩ u k (fun e => hk (by rw [e]))⟩
theorem grownBy_below {a b : World} (h : Below a.heap.size a b) (row : Option Nat) : a.grownBy b row := ⟨h.os, h.tape, h.output, h.size, fun k hk _ => h.block k hk⟩
theorem grownBy_then {a b c : World} {row : Option Nat} (h : a.grownBy b row) (k : Below b.heap.size b c) : a.grownBy c row := h.trans (grownBy_below k row)
theorem ret_int {k : IntKind} {a b : Int} (h : a = b) : Ending.returned (.int k a) = .returned (.int k b) := by rw [h]
theorem ret_bool {a b : Bool} (h : a = b) : Ending.returned (.bool a) = .returned (.bool b) := by rw [h]

end Go.Proofs.YtghbbpbhbinioaaGreat

namespace Go.Proofs.YtghbbpbhbinioaaGreat
open Go.RowKit

def Rd (w : World) (v : Value) (n : Nat) (xs : List Value) : Prop :=
  (v = .slice none 0 0 ∧ n = 0 ∧ xs = []) ∨ ∃ (b o c : Nat), v = .slice (some ⟨b, o, none⟩) n c ∧ n ≤ c ∧ ∀ j u, xs[j]? = some u → w.cell? ⟨b, o + j, none⟩ = some u

structure Kp (F : Nat → Prop) (w w' : World) : Prop where
  os : w'.os = w.os
  tape : w'.tape = w.tape
  output : w'.output = w.output
  size : w.heap.size ≤ w'.heap.size
  block : ∀ k, k < w.heap.size → ¬ F k → w'.heap[k]? = w.heap[k]?

theorem add_none (b o j : Nat) : (⟨b, o, none⟩ : Addr).add j = ⟨b, o + j, none⟩ := by unfold Addr.add; split <;> simp_all

section
variable {F G : Nat → Prop} {w w' w'' : World} {v : Value} {n : Nat} {xs : List Value}
theorem Kp.refl (F : Nat → Prop) (w : World) : Kp F w w := ⟨rfl, rfl, rfl, Nat.le_refl _, fun _ _ _ => rfl⟩
theorem Kp.trans (h : Kp F w w') (k : Kp G w' w'') (hG : ∀ b, G b → F b ∨ w.heap.size ≤ b) : Kp F w w'' :=
  ⟨k.os.trans h.os, k.tape.trans h.tape, k.output.trans h.output, Nat.le_trans h.size k.size, fun b hb hF =>
    (k.block b (Nat.lt_of_lt_of_le hb h.size) (fun g => by rcases hG b g with g | g <;> first | exact hF g | omega)).trans (h.block b hb hF)⟩
theorem Kp.mono (h : Kp F w w') (hF : ∀ b, F b → b < w.heap.size → G b) : Kp G w w' := ⟨h.os, h.tape, h.output, h.size, fun b hb hg => h.block b hb fun f => hg (hF b f hb)⟩
theorem Kp.of_below (h : Below w.heap.size w w') (F : Nat → Prop) : Kp F w w' := ⟨h.os, h.tape, h.output, h.size, fun b hb _ => h.block b hb⟩
theorem Kp.of_grown {row : Option Nat} (h : w.grownBy w' row) (hF : ∀ k, row = some k → F k ∨ w.heap.size ≤ k) : Kp F w w' :=
  ⟨h.os, h.tape, h.output, h.size, fun b hb hf => h.block b hb fun e => by rcases hF b e.symm with g | g <;> first | exact hf g | omega⟩
theorem Kp.below (h : Kp F w w') (hF : ∀ b, F b → w.heap.size ≤ b) : Below w.heap.size w w' := ⟨h.os, h.tape, h.output, h.size, fun b hb => h.block b hb fun f => by have := hF b f; omega⟩
theorem Kp.alloc (h : Kp F w w') (o : Obj) : Kp F w (w'.alloc o) := h.trans (Kp.of_below ((Below.refl _ _).alloc (Nat.le_refl _) o) (fun _ => False)) (fun _ h => h.elim)
theorem Kp.drew (h : Kp F w w') : Kp F w w'.drew := ⟨h.os, h.tape, h.output, h.size, h.block⟩
theorem Kp.setCell (h : Kp F w w') {b o : Nat} (hb : F b ∨ w.heap.size ≤ b) (u : Value) : Kp F w (w'.setCell ⟨b, o, none⟩ u) :=
  h.trans (G := fun k => k = b) ⟨rfl, rfl, rfl, by simp [World.setCell], fun k _ hk => Below.heap_setCell w' ⟨b, o, none⟩ u k (fun e => hk e)⟩ (fun k e => e ▸ hb)
theorem Kp.one (w : World) (b o : Nat) (u : Value) : Kp (fun k => k = b) w (w.setCell ⟨b, o, none⟩ u) := (Kp.refl (fun k => k = b) w).setCell (.inl rfl) u
theorem Kp.at (h : Kp F w w') {b : Nat} {o : Obj} (hb : w.heap[b]? = some o) (hF : ¬ F b) : w'.heap[b]? = some o := (h.block b (Array.getElem?_eq_some_iff.1 hb).1 hF).trans hb
theorem Kp.cell (h : Kp F w w') {b o : Nat} {u : Value} (hb : w.cell? ⟨b, o, none⟩ = some u) (hF : ¬ F b) : w'.cell? ⟨b, o, none⟩ = some u :=
  (World.cell?_of_block (h.block b (World.block_lt_of_cell? w ⟨b, o, none⟩ hb) hF)).trans hb
theorem Kp.own (h : Kp F w w') {base e size : Nat} (ho : w.ownsRow base e size v n xs) (hF : ∀ k, v.ownBlock = some k → ¬ F k) : w'.ownsRow base e size v n xs := by
  refine ⟨ho.1, ?_⟩
  rcases ho.2 with hn | ⟨g, cap, cur, rfl, hb, hg, rest⟩
  · exact .inl hn
  · exact .inr ⟨g, cap, cur, rfl, hb, h.at hg (hF g rfl), rest⟩
theorem Kp.rd (h : Kp F w w') (hr : Rd w v n xs) (hF : ∀ k, v.ownBlock = some k → ¬ F k) : Rd w' v n xs := by
  rcases hr with hn | ⟨b, o, c, rfl, hc, hx⟩
  · exact .inl hn
  · exact .inr ⟨b, o, c, rfl, hc, fun j u hu => h.cell (hx j u hu) (hF b rfl)⟩

theorem Rd.below (h : Rd w v n xs) (hb : Below w.heap.size w w') : Rd w' v n xs := (Kp.of_below hb (fun _ => False)).rd h (fun _ _ => id)
theorem Rd.alloc (h : Rd w v n xs) (o : Obj) : Rd (w.alloc o) v n xs := h.below ((Below.refl _ _).alloc (Nat.le_refl _) o)
theorem Rd.drew (h : Rd w v n xs) : Rd w.drew v n xs := h
theorem Rd.nil (w : World) : Rd w (.slice none 0 0) 0 [] := .inl ⟨rfl, rfl, rfl⟩
theorem Rd.form (h : Rd w v n xs) : ∃ A c, v = .slice A n c ∧ n ≤ c := by
  rcases h with ⟨rfl, rfl, _⟩ | ⟨b, o, c, rfl, hc, _⟩
  · exact ⟨none, 0, rfl, Nat.le_refl _⟩
  · exact ⟨_, c, rfl, hc⟩
theorem Rd.at (h : Rd w v n xs) {j : Nat} {u : Value} (hj : xs[j]? = some u) : ∃ b o c, v = .slice (some ⟨b, o, none⟩) n c ∧ n ≤ c ∧ w.cell? ⟨b, o + j, none⟩ = some u := by
  rcases h with ⟨_, _, rfl⟩ | ⟨b, o, c, rfl, hc, hx⟩
  · simp at hj
  · exact ⟨b, o, c, rfl, hc, hx j u hj⟩
theorem Rd.of_own {base e size : Nat} (h : w.ownsRow base e size v n xs) : Rd w v n xs := by
  rcases h.2 with ⟨rfl, hn⟩ | ⟨g, cap, cur, rfl, _, hg, hc, _⟩
  · have hx : xs = [] := List.eq_nil_of_length_eq_zero (by rw [h.1, hn]; simp)
    subst hn hx
    exact .inl ⟨rfl, rfl, rfl⟩
  · refine .inr ⟨g, 0, cap, rfl, hc, fun j u hu => ?_⟩
    rw [Nat.zero_add]
    have := h.cells (g := g) rfl j u hu
    rwa [add_none, Nat.zero_add] at this
theorem Rd.one (w : World) (x : Value) (t : TypeId) : Rd (w.alloc (.cells #[x] t)) (.slice (some ⟨w.heap.size, 0, none⟩) 1 1) 1 [x] := by
  refine .inr ⟨_, 0, 1, rfl, Nat.le_refl _, fun j u hu => ?_⟩
  match j, hu with
  | 0, hu => simp at hu; subst hu; simp [go_sem]
theorem Rd.one' (w : World) (x : Value) (t : TypeId) (b : Nat) (hb : b = w.heap.size) : Rd (w.alloc (.cells #[x] t)) (.slice (some ⟨b, 0, none⟩) 1 1) 1 [x] := hb ▸ Rd.one w x t
theorem Rd.two (w : World) (x y : Value) (t : TypeId) : Rd (w.alloc (.cells #[x, y] t)) (.slice (some ⟨w.heap.size, 0, none⟩) 2 2) 2 [x, y] := by
  refine .inr ⟨_, 0, 2, rfl, Nat.le_refl _, fun j u hu => ?_⟩
  match j, hu with
  | 0, hu => simp at hu; subst hu; simp [go_sem]
  | 1, hu => simp at hu; subst hu; simp [go_sem]
theorem own_less {base base' e size : Nat} (h : w.ownsRow base e size v n xs) (hb : base' ≤ base) : w.ownsRow base' e size v n xs := by
  refine ⟨h.1, ?_⟩
  rcases h.2 with hn | ⟨g, cap, cur, hv, hg, rest⟩
  · exact .inl hn
  · exact .inr ⟨g, cap, cur, hv, Nat.le_trans hb hg, rest⟩
theorem own_blk {base e size : Nat} (h : w.ownsRow base e size v n xs) : ∀ k, v.ownBlock = some k → base ≤ k ∧ k < w.heap.size := h.lt
theorem own_type {base e size : Nat} (h : w.ownsRow base e size v n xs) : ∀ k, v.ownBlock = some k → ∃ cur, w.heap[k]? = some (.cells cur e (0, 0)) := by
  intro k hk
  rcases h.2 with ⟨rfl, _⟩ | ⟨g, cap, cur, rfl, _, hg, _⟩
  · cases hk
  · cases hk; exact ⟨cur, hg⟩
theorem own_ne {base e size : Nat} (h : w.ownsRow base e size v n xs) {b t : Nat} {cur : Array Value} {z : Nat × Nat} (hb : w.heap[b]? = some (.cells cur t z)) (ht : e ≠ t) : ∀ k, v.ownBlock = some k → k ≠ b := by
  rintro k hk rfl
  obtain ⟨cur', h'⟩ := own_type h k hk
  rw [hb] at h'
  simp only [Option.some.injEq, Obj.cells.injEq] at h'
  exact ht h'.2.1.symm
theorem ne_types {b b' t t' : Nat} {c c' : Array Value} {z z' : Nat × Nat} (h : w.heap[b]? = some (.cells c t z)) (h' : w.heap[b']? = some (.cells c' t' z')) (ht : t ≠ t') : b ≠ b' := by
  rintro rfl
  rw [h] at h'
  simp only [Option.some.injEq, Obj.cells.injEq] at h'
  exact ht h'.2.1
theorem own_at {base e size : Nat} (h : w.ownsRow base e size v n xs) {j : Nat} {u : Value} (hj : xs[j]? = some u) : ∃ g c, v = .slice (some ⟨g, 0, none⟩) n c ∧ n ≤ c ∧ w.cell? ⟨g, j, none⟩ = some u ∧ w.frozen? ⟨g, j, none⟩ = false := by
  rcases h.2 with ⟨rfl, hn⟩ | ⟨g, cap, cur, rfl, _, hg, hc, _⟩
  · have hx : xs = [] := List.eq_nil_of_length_eq_zero (by rw [h.1, hn]; simp)
    subst hx
    simp at hj
  · refine ⟨g, cap, rfl, hc, ?_, h.frozenAt j⟩
    have := h.cells (g := g) rfl j u hj
    rwa [add_none, Nat.zero_add] at this
theorem own_take {base e size : Nat} {g c m : Nat} (h : w.ownsRow base e size (.slice (some ⟨g, 0, none⟩) n c) n xs) (hm : m ≤ n) : w.ownsRow base e size (.slice (some ⟨g, 0, none⟩) m c) m (xs.take (m * size)) := by
  have hle : m * size ≤ n * size := Nat.mul_le_mul_right _ hm
  refine ⟨by rw [List.length_take, h.1]; omega, ?_⟩
  rcases h.2 with ⟨h', _⟩ | ⟨g', cap', cur, h', hb, hg, hnc, hcm, hcs, htake⟩
  · cases h'
  · simp only [Value.slice.injEq, Option.some.injEq, Addr.mk.injEq, and_true, true_and] at h'
    obtain ⟨rfl, rfl⟩ := h'
    exact .inr ⟨g, c, cur, rfl, hb, hg, by omega, hcm, hcs, by rw [← htake, List.take_take, Nat.min_eq_left hle]⟩
end

section
variable {P : Program} {w : World}
theorem run_append_rd (B : Nat) (t ty e : TypeId) (i : TypeInfo) (z : Value) (size bytes : Nat) (ht : P.underlying t = some (.slice e)) (hi : P.info? e = some i) (hz : i.zero = some z) (hsize : i.size = size) (hby : i.bytes = bytes)
    (hzs : z.cells.size = size) (hsz : 0 < size) (v : Value) (n : Nat) (xs : List Value) (hown : w.ownsRow B e size v n xs) (y : Value) (m : Nat) (ys : List Value) (hy : Rd w y m ys) (hl : ys.length = m * size) (h1 : ∀ u ∈ ys, u.oneCell' = true)
    (h63 : n + m ≤ maxLen) (hbytes : (n + m) * bytes ≤ 140737488355328) (hB : B ≤ w.heap.size) :
    ∃ v' w', (Builtin.append_ #[t, t] ty #[v, y]).run P w = .ok v' w' ∧ w'.ownsRow B e size v' (n + m) (xs ++ ys) ∧ w.grownBy w' v.ownBlock ∧ (v'.ownBlock = v.ownBlock ∨ v'.ownBlock = some w.heap.size) := by
  rcases hy with ⟨rfl, rfl, rfl⟩ | ⟨b, o, c, rfl, _, hc⟩
  · exact ⟨v, w, run_append_owned_none w B t ty e i size ht hi v _ _ hown, by simpa using hown, ⟨rfl, rfl, rfl, Nat.le_refl _, fun _ _ _ => rfl⟩, .inl rfl⟩
  · obtain ⟨v', w', hr, ho, hg, _, hat⟩ := run_append_own_at (P := P) w B t ty e i z size bytes ht hi hz hsize hby hzs hsz v n xs hown ⟨b, o, none⟩ m c ys hl (fun j u hu => by rw [add_none]; exact hc j u hu) h1 h63 hbytes hB
    exact ⟨v', w', hr, ho, hg, hat⟩

theorem wp_append_rd {o : Oper} {a : Act} {K : Act → World → Prop} {Q : Exit → Act → World → Prop} (s x : Operand) (t : TypeId)
    (ho : o.op = .call { callee := .builtin .append, args := #[s, x], argTypes := #[t, t] })
    (B : Nat) (e : TypeId) (i : TypeInfo) (z : Value) (size bytes : Nat) (ht : P.underlying t = some (.slice e)) (hi : P.info? e = some i) (hz : i.zero = some z) (hsize : i.size = size) (hby : i.bytes = bytes) (hzs : z.cells.size = size) (hsz : 0 < size)
    (v : Value) (n : Nat) (xs : List Value) (hs : a.eval s = v) (hown : w.ownsRow B e size v n xs) (y : Value) (m : Nat) (ys : List Value) (hx : a.eval x = y) (hy : Rd w y m ys) (hl : ys.length = m * size) (h1 : ∀ u ∈ ys, u.oneCell' = true)
    (h63 : n + m ≤ maxLen) (hbytes : (n + m) * bytes ≤ 140737488355328) (hB : B ≤ w.heap.size)
    (h : ∀ v' w', w'.ownsRow B e size v' (n + m) (xs ++ ys) → w.grownBy w' v.ownBlock → (v'.ownBlock = v.ownBlock ∨ v'.ownBlock = some w.heap.size) → K (a.put o.dst v') w') : o.wp P a w K Q := by
  obtain ⟨v', w', hrun, h2, h3, h4⟩ := run_append_rd (P := P) (w := w) B t o.type e i z size bytes ht hi hz hsize hby hzs hsz v n xs hown y m ys hy hl h1 h63 hbytes hB
  unfold Oper.wp execOp
  simp only [ho, resolve, invoke, builtin, Sem.run_bind, Sem.run_pure, Result.andThen_ok, List.map_toArray, List.map_cons, List.map_nil, hs, hx, hrun]
  exact h v' w' h2 h3 h4
theorem wpList_append_rd {ops : Array Oper} {rest : List Oper} {o : Oper} {a : Act} {Q : Exit → Act → World → Prop} (hgd : o.guard = none) (s x : Operand) (t : TypeId)
    (ho : o.op = .call { callee := .builtin .append, args := #[s, x], argTypes := #[t, t] })
    (B : Nat) (e : TypeId) (i : TypeInfo) (z : Value) (size bytes : Nat) (ht : P.underlying t = some (.slice e)) (hi : P.info? e = some i) (hz : i.zero = some z) (hsize : i.size = size) (hby : i.bytes = bytes) (hzs : z.cells.size = size) (hsz : 0 < size)
    (v : Value) (n : Nat) (xs : List Value) (hs : a.eval s = v) (hown : w.ownsRow B e size v n xs) (y : Value) (m : Nat) (ys : List Value) (hx : a.eval x = y) (hy : Rd w y m ys) (hl : ys.length = m * size) (h1 : ∀ u ∈ ys, u.oneCell' = true)
    (h63 : n + m ≤ maxLen) (hbytes : (n + m) * bytes ≤ 140737488355328) (hB : B ≤ w.heap.size)
    (h : ∀ v' w', w'.ownsRow B e size v' (n + m) (xs ++ ys) → w.grownBy w' v.ownBlock → (v'.ownBlock = v.ownBlock ∨ v'.ownBlock = some w.heap.size) → wpList P ops Q rest (a.put o.dst v') w') : wpList P ops Q (o :: rest) a w :=
  wpList_plain hgd fun _ hK => wp_append_rd s x t ho B e i z size bytes ht hi hz hsize hby hzs hsz v n xs hs hown y m ys hx hy hl h1 h63 hbytes hB fun v' w' h2 h3 h4 => hK _ _ (h v' w' h2 h3 h4)

theorem step_append_rd {ops : Array Oper} {o : Oper} {a : Act} {K : Act → World → Prop} {Q : Exit → Act → World → Prop} {E : Prop} (hgd : o.guard = none) (s x : Operand) (t : TypeId)
    (ho : o.op = .call { callee := .builtin .append, args := #[s, x], argTypes := #[t, t] })
    (B : Nat) (e : TypeId) (i : TypeInfo) (z : Value) (size bytes : Nat) (ht : P.underlying t = some (.slice e)) (hi : P.info? e = some i) (hz : i.zero = some z) (hsize : i.size = size) (hby : i.bytes = bytes) (hzs : z.cells.size = size) (hsz : 0 < size)
    (v : Value) (n : Nat) (xs : List Value) (hs : a.eval s = v) (hown : w.ownsRow B e size v n xs) (y : Value) (m : Nat) (ys : List Value) (hx : a.eval x = y) (hy : Rd w y m ys) (hl : ys.length = m * size) (h1 : ∀ u ∈ ys, u.oneCell' = true)
    (h63 : n + m ≤ maxLen) (hbytes : (n + m) * bytes ≤ 140737488355328) (hB : B ≤ w.heap.size)
    (h : ∀ v' w', w'.ownsRow B e size v' (n + m) (xs ++ ys) → w.grownBy w' v.ownBlock → (v'.ownBlock = v.ownBlock ∨ v'.ownBlock = some w.heap.size) → K (a.put o.dst v') w') :
    if Region.wanted o (yielded ops a.tmps) = true then Oper.wp P o a w K Q else E := by
  have hw : Region.wanted o (yielded ops a.tmps) = true := by simp [Region.wanted, hgd]
  rw [if_pos hw]
  exact wp_append_rd s x t ho B e i z size bytes ht hi hz hsize hby hzs hsz v n xs hs hown y m ys hx hy hl h1 h63 hbytes hB h
theorem step_call {ops : Array Oper} {o : Oper} {a : Act} {K : Act → World → Prop} {Q : Exit → Act → World → Prop} {E : Prop} (hgd : o.guard = none) (f : FuncId) (args : Array Value) (hrun : (execOp a.eval o).run P w = .ok (.enter f args) w)
    {R : Value → World → Prop} (hc : Calls P f args w fun e w' => ∃ v, e = .returned v ∧ R v w') (h : ∀ v w', R v w' → K (a.put o.dst v) w') : if Region.wanted o (yielded ops a.tmps) = true then Oper.wp P o a w K Q else E := by
  have hw : Region.wanted o (yielded ops a.tmps) = true := by simp [Region.wanted, hgd]
  rw [if_pos hw]
  unfold Oper.wp
  rw [hrun, Oper.upon_enter]
  refine hc.mono fun e w' hh => ?_
  obtain ⟨v, rfl, hR⟩ := hh
  exact h v w' hR
end

end Go.Proofs.YtghbbpbhbinioaaGreat

namespace Go.Proofs.YtghbbpbhbinioaaGreat
open Go.RowKit

end Go.Proofs.YtghbbpbhbinioaaGreat

namespace Go.Proofs.YtghbbpbhbinioaaGreat
open Go.ChangeShapes Go.WideShapes Go.ChangeAt Go.RowKit Go.Joins Go.Deep

abbrev V3 := Int × Int × ByteArray

def Lst (w : World) (A : Option Addr) (l : List V3) : Prop :=
  l = [] ∨ ∃ b o, A = some ⟨b, o, none⟩ ∧ b < w.heap.size ∧ ∀ i x, l[i]? = some x →
    w.cell? ⟨b, o + i * 3, none⟩ = some (.int .u8 x.1) ∧ w.cell? ⟨b, o + i * 3 + 1, none⟩ = some (.int .i64 x.2.1) ∧ w.cell? ⟨b, o + i * 3 + 2, none⟩ = some (.string x.2.2)

theorem Lst.grow {w w' : World} {A : Option Addr} {l : List V3} (h : Lst w A l) (g : Gw w w') : Lst w' A l := by
  rcases h with h | ⟨b, o, hA, hb, hc⟩
  · exact .inl h
  · refine .inr ⟨b, o, hA, Nat.lt_of_lt_of_le hb g.size, fun i x hx => ?_⟩
    obtain ⟨c0, c1, c2⟩ := hc i x hx
    exact ⟨(g.cell hb).trans c0, (g.cell hb).trans c1, (g.cell hb).trans c2⟩
theorem Lst.at {w : World} {A : Option Addr} {l : List V3} (h : Lst w A l) {i : Nat} {x : V3} (hi : l[i]? = some x) : ∃ b o, A = some ⟨b, o, none⟩ ∧ b < w.heap.size ∧
    w.cell? ⟨b, o + i * 3, none⟩ = some (.int .u8 x.1) ∧ w.cell? ⟨b, o + i * 3 + 1, none⟩ = some (.int .i64 x.2.1) ∧ w.cell? ⟨b, o + i * 3 + 2, none⟩ = some (.string x.2.2) := by
  rcases h with h | ⟨b, o, hA, hb, hc⟩
  · subst h; simp at hi
  · exact ⟨b, o, hA, hb, hc i x hi⟩

theorem Lst.gr {w : World} {A : Option Addr} {l : List V3} (h : Lst w A l) {i : Nat} {x : V3} (hi : l[i]? = some x) : ∃ b o, A = some ⟨b, o, none⟩ ∧
    (∀ g : Gr w, g.at'.cell? ⟨b, o + i * 3, none⟩ = some (.int .u8 x.1)) ∧ (∀ g : Gr w, g.at'.cell? ⟨b, o + i * 3 + 1, none⟩ = some (.int .i64 x.2.1)) ∧ (∀ g : Gr w, g.at'.cell? ⟨b, o + i * 3 + 2, none⟩ = some (.string x.2.2)) := by
  obtain ⟨b, o, hA, hb, c0, c1, c2⟩ := h.at hi
  exact ⟨b, o, hA, Gr.cell c0 hb, Gr.cell c1 hb, Gr.cell c2 hb⟩

section
variable {H : Type} {enc : TypeId × Value → H} {W : World} {base : Nat} {sp : Nat → Bool} {held : Bool}
end

def cells3 (x : V3) : List Value := [.int .u8 x.1, .int .i64 x.2.1, .string x.2.2]
theorem flat_len : ∀ l : List V3, (l.flatMap cells3).length = l.length * 3
  | [] => rfl
  | x :: l => by rw [List.flatMap_cons, List.length_append, flat_len l, List.length_cons]; simp [cells3]; omega
theorem Lst.below {w w' : World} {A : Option Addr} {l : List V3} (h : Lst w A l) (g : Below w.heap.size w w') : Lst w' A l := by
  rcases h with h | ⟨b, o, hA, hb, hc⟩
  · exact .inl h
  · refine .inr ⟨b, o, hA, Nat.lt_of_lt_of_le hb g.size, fun i x hx => ?_⟩
    obtain ⟨c0, c1, c2⟩ := hc i x hx
    exact ⟨(g.cell (p := ⟨b, _, none⟩) hb).trans c0, (g.cell (p := ⟨b, _, none⟩) hb).trans c1, (g.cell (p := ⟨b, _, none⟩) hb).trans c2⟩
theorem Lst.grown {w w' : World} {A : Option Addr} {l : List V3} {g : Nat} (h : Lst w A l) (hg : w.grownBy w' (some g)) (hA : ∀ a, A = some a → l ≠ [] → a.block ≠ g) : Lst w' A l := by
  by_cases hl : l = []
  · exact .inl hl
  rcases h with h | ⟨b, o, rfl, hb, hc⟩
  · exact .inl h
  · have hne : some b ≠ some g := fun e => hA _ rfl hl (by injection e)
    refine .inr ⟨b, o, rfl, Nat.lt_of_lt_of_le hb hg.size, fun i x hx => ?_⟩
    obtain ⟨c0, c1, c2⟩ := hc i x hx
    exact ⟨hg.cell c0 hne, hg.cell c1 hne, hg.cell c2 hne⟩


end Go.Proofs.YtghbbpbhbinioaaGreat

namespace Go.Proofs.YtghbbpbhbinioaaGreat
open Go.RowKit

end Go.Proofs.YtghbbpbhbinioaaGreat

namespace Go.Proofs.YtghbbpbhbinioaaGreat

def icmp (a b : Int) : Int := if a < b then -1 else if b < a then 1 else 0
def lcmp : List UInt8 → List UInt8 → Int
  | [], [] => 0
  | [], _ :: _ => -1
  | _ :: _, [] => 1
  | a :: x, b :: y => if a < b then -1 else if b < a then 1 else lcmp x y
def vcmp (k n : Int) (s : ByteArray) (k' n' : Int) (s' : ByteArray) : Int :=
  if k = k' then (if n = n' then lcmp s.toList s'.toList else icmp n n') else icmp k k'

theorem icmp_range (a b : Int) : -1 ≤ icmp a b ∧ icmp a b ≤ 1 := by unfold icmp; split <;> (try split) <;> omega
theorem icmp_swap (a b : Int) : icmp b a = - icmp a b := by unfold icmp; split <;> (try split) <;> (try split) <;> omega
theorem icmp_zero (a b : Int) : icmp a b = 0 ↔ a = b := by unfold icmp; split <;> (try split) <;> omega
theorem icmp_lt (a b : Int) : icmp a b = -1 ↔ a < b := by unfold icmp; split <;> (try split) <;> omega

theorem u8_ext (a b : UInt8) (h1 : ¬ a < b) (h2 : ¬ b < a) : a = b := by
  rw [UInt8.lt_iff_toNat_lt] at h1 h2
  exact UInt8.toNat_inj.1 (by omega)
theorem u8_irrefl (a : UInt8) : ¬ a < a := by rw [UInt8.lt_iff_toNat_lt]; omega

theorem lcmp_range : ∀ a b : List UInt8, -1 ≤ lcmp a b ∧ lcmp a b ≤ 1
  | [], [] => by simp [lcmp]
  | [], _ :: _ => by simp [lcmp]
  | _ :: _, [] => by simp [lcmp]
  | a :: x, b :: y => by rw [lcmp]; split <;> (try split) <;> first | omega | exact lcmp_range x y
theorem lcmp_swap : ∀ a b : List UInt8, lcmp b a = - lcmp a b
  | [], [] => by simp [lcmp]
  | [], _ :: _ => by simp [lcmp]
  | _ :: _, [] => by simp [lcmp]
  | a :: x, b :: y => by
    have ih := lcmp_swap x y
    rw [lcmp, lcmp]
    by_cases h1 : a < b
    · have h2 : ¬ b < a := by rw [UInt8.lt_iff_toNat_lt] at *; omega
      simp [h1, h2]
    · by_cases h2 : b < a <;> simp [h1, h2, ih]
theorem lcmp_zero : ∀ a b : List UInt8, lcmp a b = 0 ↔ a = b
  | [], [] => by simp [lcmp]
  | [], _ :: _ => by simp [lcmp]
  | _ :: _, [] => by simp [lcmp]
  | a :: x, b :: y => by
    have ih := lcmp_zero x y
    rw [lcmp]
    by_cases h1 : a < b
    · have : a ≠ b := fun e => u8_irrefl b (by rwa [e] at h1)
      simp [h1, this]
    · by_cases h2 : b < a
      · have : a ≠ b := fun e => u8_irrefl b (by rwa [e] at h2)
        simp [h1, h2, this]
      · simp [ih, u8_ext a b h1 h2]
theorem lcmp_less : ∀ a b : List UInt8, Op.bytesLess a b = decide (lcmp a b = -1)
  | [], [] => by simp [lcmp, Op.bytesLess]
  | [], _ :: _ => by simp [lcmp, Op.bytesLess]
  | _ :: _, [] => by simp [lcmp, Op.bytesLess]
  | a :: x, b :: y => by
    have ih := lcmp_less x y
    rw [lcmp, Op.bytesLess]
    by_cases h1 : a < b
    · simp [h1]
    · by_cases h2 : b < a
      · have : a ≠ b := fun e => u8_irrefl b (by rwa [e] at h2)
        simp [h1, h2, this]
      · simp [ih, u8_ext a b h1 h2]
theorem lcmp_trans : ∀ a b c : List UInt8, lcmp a b ≤ 0 → lcmp b c ≤ 0 → lcmp a c ≤ 0 ∧ (lcmp a c = 0 → lcmp a b = 0 ∧ lcmp b c = 0)
  | [], [], [] => by simp [lcmp]
  | [], [], _ :: _ => by simp [lcmp]
  | [], _ :: _, [] => by simp [lcmp]
  | [], _ :: _, _ :: _ => by simp [lcmp]
  | _ :: _, [], _ => by simp [lcmp]
  | _ :: _, _ :: _, [] => by simp [lcmp]
  | a :: x, b :: y, c :: z => by
    have ih := lcmp_trans x y z
    rw [lcmp, lcmp, lcmp]
    simp only [UInt8.lt_iff_toNat_lt]
    generalize a.toNat = a
    generalize b.toNat = b
    generalize c.toNat = c
    intro h1 h2
    repeat' split at h1
    all_goals repeat' split at h2
    all_goals repeat' split
    all_goals first | omega | exact ih h1 h2

theorem icmp_m1 {a b : Int} (h : a < b) : -1 = icmp a b := by simp [icmp, h]
theorem icmp_p1 {a b : Int} (h : b < a) : 1 = icmp a b := by unfold icmp; rw [if_neg (by omega), if_pos h]
theorem icmp_0 {a b : Int} (h : b ≤ a) (h' : a ≤ b) : 0 = icmp a b := by unfold icmp; rw [if_neg (by omega), if_neg (by omega)]
theorem lcmp_m1 {a b : List UInt8} (h : Op.bytesLess a b = true) : -1 = lcmp a b := by rw [lcmp_less] at h; exact (of_decide_eq_true h).symm
theorem lcmp_p1 {a b : List UInt8} (h : Op.bytesLess a b = false) (h' : (!a == b) = true) : 1 = lcmp a b := by
  rw [lcmp_less] at h
  have h1 := of_decide_eq_false h
  have h2 : ¬ lcmp a b = 0 := fun e => by rw [(lcmp_zero a b).1 e] at h'; simp at h'
  have := lcmp_range a b
  omega
theorem lcmp_0 {a b : List UInt8} (h' : (!a == b) = false) : 0 = lcmp a b := by
  have : a = b := by simpa using h'
  exact ((lcmp_zero a b).2 this).symm

theorem vcmp_range (k n : Int) (s : ByteArray) (k' n' : Int) (s' : ByteArray) : -1 ≤ vcmp k n s k' n' s' ∧ vcmp k n s k' n' s' ≤ 1 := by
  unfold vcmp; split <;> (try split)
  · exact lcmp_range _ _
  · exact icmp_range _ _
  · exact icmp_range _ _
theorem vcmp_swap (k n : Int) (s : ByteArray) (k' n' : Int) (s' : ByteArray) : vcmp k' n' s' k n s = - vcmp k n s k' n' s' := by
  unfold vcmp
  by_cases h1 : k = k'
  · by_cases h2 : n = n'
    · simp [h1, h2, lcmp_swap s.toList]
    · simp [h1, h2, Ne.symm h2, icmp_swap n]
  · simp [h1, Ne.symm h1, icmp_swap k]
theorem vcmp_zero (k n : Int) (s : ByteArray) (k' n' : Int) (s' : ByteArray) : vcmp k n s k' n' s' = 0 ↔ k = k' ∧ n = n' ∧ s.toList = s'.toList := by
  unfold vcmp
  by_cases h1 : k = k'
  · by_cases h2 : n = n'
    · simp [h1, h2, lcmp_zero]
    · simp [h1, h2, icmp_zero]
  · simp [h1, icmp_zero]
theorem vcmp_trans (k1 n1 : Int) (s1 : ByteArray) (k2 n2 : Int) (s2 : ByteArray) (k3 n3 : Int) (s3 : ByteArray) :
    vcmp k1 n1 s1 k2 n2 s2 ≤ 0 → vcmp k2 n2 s2 k3 n3 s3 ≤ 0 → vcmp k1 n1 s1 k3 n3 s3 ≤ 0 ∧ (vcmp k1 n1 s1 k3 n3 s3 = 0 → vcmp k1 n1 s1 k2 n2 s2 = 0 ∧ vcmp k2 n2 s2 k3 n3 s3 = 0) := by
  have e1 : ∀ a b : Int, icmp a b ≤ 0 → a ≠ b → a < b := fun a b h hne => by unfold icmp at h; split at h <;> (try split at h) <;> omega
  have e2 : ∀ a b : Int, a < b → icmp a b = -1 := fun a b h => (icmp_lt a b).2 h
  unfold vcmp
  have L := lcmp_trans s1.toList s2.toList s3.toList
  by_cases ha : k1 = k2
  · subst ha
    by_cases hb : k1 = k3
    · subst hb
      simp only [if_true]
      by_cases hc : n1 = n2
      · subst hc
        by_cases hd : n1 = n3
        · subst hd; simpa using L
        · simp only [if_true, if_neg hd]; intro _ h; have := e2 _ _ (e1 _ _ h hd); omega
      · simp only [if_neg hc]
        by_cases hd : n2 = n3
        · subst hd; simp only [if_true, if_neg hc]; intro h _; have := e2 _ _ (e1 _ _ h hc); omega
        · simp only [if_neg hd]; intro h h'
          have a1 := e1 _ _ h hc; have a2 := e1 _ _ h' hd
          rw [if_neg (by omega), e2 n1 n3 (by omega)]; omega
    · simp only [if_true, if_neg hb]; intro _ h; have := e2 _ _ (e1 _ _ h hb); omega
  · simp only [if_neg ha]
    by_cases hb : k2 = k3
    · subst hb; simp only [if_true, if_neg ha]; intro h _; have := e2 _ _ (e1 _ _ h ha); omega
    · simp only [if_neg hb]; intro h h'
      have a1 := e1 _ _ h ha; have a2 := e1 _ _ h' hb
      rw [if_neg (by omega), e2 k1 k3 (by omega)]; omega

theorem vc_0 {k n k' n' : Int} {s s' : ByteArray} (h1 : k = k') (h2 : n = n') (h3 : s.toList = s'.toList) : 0 = vcmp k n s k' n' s' := ((vcmp_zero _ _ _ _ _ _).2 ⟨h1, h2, h3⟩).symm
theorem vc_s {k n k' n' : Int} {s s' : ByteArray} (h1 : k = k') (h2 : n = n') : lcmp s.toList s'.toList = vcmp k n s k' n' s' := by simp [vcmp, h1, h2]
theorem vc_n {k n k' n' : Int} {s s' : ByteArray} (h1 : k = k') (h2 : ¬ n = n') : icmp n n' = vcmp k n s k' n' s' := by simp [vcmp, h1, h2]
theorem vc_k {k n k' n' : Int} {s s' : ByteArray} (h1 : ¬ k = k') : icmp k k' = vcmp k n s k' n' s' := by simp [vcmp, h1]

theorem bytes_ext {s t : ByteArray} (h : s.toList = t.toList) : s = t := by
  rw [ByteArray.toList_eq, ByteArray.toList_eq] at h
  obtain ⟨⟨a⟩⟩ := s
  obtain ⟨⟨b⟩⟩ := t
  simp at h
  rw [h]

end Go.Proofs.YtghbbpbhbinioaaGreat

namespace Go.Proofs.YtghbbpbhbinioaaGreat

abbrev Ky := Int × Int × ByteArray
abbrev Pr := Ky × Ky
def dg (g i : Nat) : Nat := g / 32 ^ i % 32
theorem dg_lt (g i : Nat) : dg g i < 32 := Nat.mod_lt _ (by decide)
def vc (a b : Ky) : Int := vcmp a.1 a.2.1 a.2.2 b.1 b.2.1 b.2.2
theorem vc_eq {a b : Ky} : vc a b = 0 ↔ a = b := by
  obtain ⟨a1, a2, a3⟩ := a
  obtain ⟨b1, b2, b3⟩ := b
  unfold vc
  rw [vcmp_zero]
  constructor
  · rintro ⟨h1, h2, h3⟩
    simp only at h1 h2 h3
    rw [h1, h2, bytes_ext h3]
  · intro h
    simp only [Prod.mk.injEq] at h
    exact ⟨h.1, h.2.1, by rw [h.2.2]⟩
theorem vc_swap (a b : Ky) : vc b a = - vc a b := vcmp_swap _ _ _ _ _ _
theorem vc_range (a b : Ky) : -1 ≤ vc a b ∧ vc a b ≤ 1 := vcmp_range _ _ _ _ _ _
theorem vc_trans {a b c : Ky} (h1 : vc a b = -1) (h2 : vc b c = -1) : vc a c = -1 := by
  obtain ⟨h3, h4⟩ := vcmp_trans a.1 a.2.1 a.2.2 b.1 b.2.1 b.2.2 c.1 c.2.1 c.2.2 (by show vc a b ≤ 0; omega) (by show vc b c ≤ 0; omega)
  have h5 := vc_range a c
  have h6 : vc a c ≤ 0 := h3
  have h7 : vc a c = 0 → vc a b = 0 ∧ vc b c = 0 := h4
  by_cases e : vc a c = 0
  · have := h7 e; omega
  · omega

def ptF (g h : Nat) : Nat → Nat → Nat
  | 0, l => l
  | f + 1, l => if dg g l = dg h l then ptF g h f (l + 1) else l
theorem ptF_spec (g h : Nat) : ∀ f l, l ≤ ptF g h f l ∧ ptF g h f l ≤ l + f ∧ (∀ j, l ≤ j → j < ptF g h f l → dg g j = dg h j) ∧ (ptF g h f l < l + f → dg g (ptF g h f l) ≠ dg h (ptF g h f l))
  | 0, l => ⟨Nat.le_refl _, Nat.le_refl _, fun j h1 h2 => absurd h2 (Nat.not_lt.2 h1), fun h1 => absurd h1 (Nat.lt_irrefl _)⟩
  | f + 1, l => by
    unfold ptF
    by_cases e : dg g l = dg h l
    · rw [if_pos e]
      obtain ⟨h1, h2, h3, h4⟩ := ptF_spec g h f (l + 1)
      refine ⟨by omega, by omega, fun j j1 j2 => ?_, fun h5 => h4 (by omega)⟩
      by_cases ej : j = l
      · rw [ej]; exact e
      · exact h3 j (by omega) j2
    · rw [if_neg e]
      exact ⟨Nat.le_refl _, by omega, fun j j1 j2 => by omega, fun _ => e⟩
def pt (g h : Nat) : Nat := ptF g h 13 0
theorem pt_le (g h : Nat) : pt g h ≤ 13 := by have := (ptF_spec g h 13 0).2.1; unfold pt; omega
theorem pt_eq {g h j : Nat} (hj : j < pt g h) : dg g j = dg h j := (ptF_spec g h 13 0).2.2.1 j (Nat.zero_le _) hj
theorem pt_ne {g h : Nat} (hp : pt g h < 13) : dg g (pt g h) ≠ dg h (pt g h) := (ptF_spec g h 13 0).2.2.2 (by unfold pt at hp; omega)
theorem pt_uniq {g h p : Nat} (hp : p ≤ 13) (he : ∀ j, j < p → dg g j = dg h j) (hn : p < 13 → dg g p ≠ dg h p) : pt g h = p := by
  rcases Nat.lt_trichotomy (pt g h) p with e | e | e
  · exact absurd (he _ e) (pt_ne (by omega))
  · exact e
  · exact absurd (pt_eq e) (hn (by have := pt_le g h; omega))
theorem pt_swap (g h : Nat) : pt h g = pt g h := pt_uniq (pt_le g h) (fun _ hj => (pt_eq hj).symm) (fun hp => (pt_ne hp).symm)
theorem pt_self (g : Nat) : pt g g = 13 := pt_uniq (Nat.le_refl _) (fun _ _ => rfl) (fun h => absurd h (Nat.lt_irrefl _))
section
variable (hs : Ky → Nat)
def kltB (a b : Ky) : Bool := if pt (hs a) (hs b) < 13 then decide (dg (hs a) (pt (hs a) (hs b)) < dg (hs b) (pt (hs a) (hs b))) else decide (vc a b = -1)
abbrev klt (a b : Ky) : Prop := kltB hs a b = true
variable {hs}
theorem klt_dg {a b : Ky} (hp : pt (hs a) (hs b) < 13) : klt hs a b ↔ dg (hs a) (pt (hs a) (hs b)) < dg (hs b) (pt (hs a) (hs b)) := by
  unfold klt kltB
  rw [if_pos hp, decide_eq_true_eq]
theorem klt_vc {a b : Ky} (hp : pt (hs a) (hs b) = 13) : klt hs a b ↔ vc a b = -1 := by
  unfold klt kltB
  rw [if_neg (by omega), decide_eq_true_eq]
theorem klt_irrefl (a : Ky) : ¬ klt hs a a := by
  rw [klt_vc (pt_self _), vc_eq.2 rfl]
  decide
theorem klt_total {a b : Ky} (h : a ≠ b) : klt hs a b ∨ klt hs b a := by
  by_cases hp : pt (hs a) (hs b) < 13
  · rw [klt_dg hp, klt_dg (by rw [pt_swap]; exact hp), pt_swap (hs a) (hs b)]
    have := pt_ne hp
    omega
  · have hp' : pt (hs a) (hs b) = 13 := by have := pt_le (hs a) (hs b); omega
    rw [klt_vc hp', klt_vc (by rw [pt_swap]; exact hp'), vc_swap a b]
    have h1 := vc_range a b
    have h2 : vc a b ≠ 0 := fun e => h (vc_eq.1 e)
    omega
theorem klt_trans {a b c : Ky} (h1 : klt hs a b) (h2 : klt hs b c) : klt hs a c := by
  rcases Nat.lt_trichotomy (pt (hs a) (hs b)) (pt (hs b) (hs c)) with e | e | e
  · have hp : pt (hs a) (hs c) = pt (hs a) (hs b) := by
      have h13 : pt (hs a) (hs b) < 13 := by have := pt_le (hs b) (hs c); omega
      refine pt_uniq (by omega) (fun j hj => (pt_eq hj).trans (pt_eq (by omega))) (fun _ => ?_)
      rw [← pt_eq e]
      exact pt_ne h13
    have h13 : pt (hs a) (hs b) < 13 := by have := pt_le (hs b) (hs c); omega
    rw [klt_dg h13] at h1
    rw [klt_dg (by rw [hp]; exact h13), hp, ← pt_eq e]
    exact h1
  · by_cases h13 : pt (hs a) (hs b) < 13
    · have h13' : pt (hs b) (hs c) < 13 := by omega
      rw [klt_dg h13] at h1
      rw [klt_dg h13', ← e] at h2
      have hp : pt (hs a) (hs c) = pt (hs a) (hs b) := pt_uniq (by omega) (fun j hj => (pt_eq hj).trans (pt_eq (by omega))) (fun _ => by omega)
      rw [klt_dg (by rw [hp]; exact h13), hp]
      omega
    · have hp1 : pt (hs a) (hs b) = 13 := by have := pt_le (hs a) (hs b); omega
      have hp2 : pt (hs b) (hs c) = 13 := by omega
      have hp : pt (hs a) (hs c) = 13 := pt_uniq (Nat.le_refl _) (fun j hj => (pt_eq (show j < pt (hs a) (hs b) by omega)).trans (pt_eq (by omega))) (fun h => by omega)
      rw [klt_vc hp1] at h1
      rw [klt_vc hp2] at h2
      rw [klt_vc hp]
      exact vc_trans h1 h2
  · have h13 : pt (hs b) (hs c) < 13 := by have := pt_le (hs a) (hs b); omega
    have hp : pt (hs a) (hs c) = pt (hs b) (hs c) := by
      refine pt_uniq (by omega) (fun j hj => (pt_eq (show j < pt (hs a) (hs b) by omega)).trans (pt_eq hj)) (fun _ => ?_)
      rw [pt_eq e]
      exact pt_ne h13
    rw [klt_dg h13] at h2
    rw [klt_dg (by rw [hp]; exact h13), hp, pt_eq e]
    exact h2
theorem klt_asymm {a b : Ky} (h1 : klt hs a b) : ¬ klt hs b a := fun h2 => klt_irrefl a (klt_trans h1 h2)

abbrev Srt (hs : Ky → Nat) (l : List Pr) : Prop := l.Pairwise (fun p q => klt hs p.1 q.1)
theorem Srt.key_inj {l : List Pr} (h : Srt hs l) {p q : Pr} (hp : p ∈ l) (hq : q ∈ l) (e : p.1 = q.1) : p = q := by
  induction l with
  | nil => cases hp
  | cons x l ih =>
    obtain ⟨h1, h2⟩ := List.pairwise_cons.1 h
    rcases List.mem_cons.1 hp with rfl | hp'
    · rcases List.mem_cons.1 hq with rfl | hq'
      · rfl
      · exact absurd (e ▸ h1 q hq') (klt_irrefl _)
    · rcases List.mem_cons.1 hq with rfl | hq'
      · exact absurd (e ▸ h1 p hp') (klt_irrefl _)
      · exact ih h2 hp' hq'
theorem Srt.ext : ∀ {l m : List Pr}, Srt hs l → Srt hs m → (∀ q, q ∈ l ↔ q ∈ m) → l = m
  | [], [], _, _, _ => rfl
  | [], y :: m, _, _, h => absurd ((h y).2 (by simp)) (by simp)
  | x :: l, [], _, _, h => absurd ((h x).1 (by simp)) (by simp)
  | x :: l, y :: m, hl, hm, h => by
    obtain ⟨l1, l2⟩ := List.pairwise_cons.1 hl
    obtain ⟨m1, m2⟩ := List.pairwise_cons.1 hm
    have exy : x = y := by
      rcases List.mem_cons.1 ((h x).1 (by simp)) with e | e
      · exact e
      · rcases List.mem_cons.1 ((h y).2 (by simp)) with e' | e'
        · exact e'.symm
        · exact absurd (m1 x e) (klt_asymm (l1 y e'))
    subst exy
    have hx : ∀ q, q ∈ l → q ≠ x := fun q hq e => klt_irrefl x.1 (by have := l1 q hq; rwa [e] at this)
    have hx' : ∀ q, q ∈ m → q ≠ x := fun q hq e => klt_irrefl x.1 (by have := m1 q hq; rwa [e] at this)
    rw [Srt.ext l2 m2 fun q => ⟨fun hq => (List.mem_cons.1 ((h q).1 (by simp [hq]))).resolve_left (hx q hq), fun hq => (List.mem_cons.1 ((h q).2 (by simp [hq]))).resolve_left (hx' q hq)⟩]

def putD (hs : Ky → Nat) (p : Pr) : Bool → List Pr → List Pr
  | done, [] => if done then [] else [p]
  | done, q :: l => if q.1 = p.1 then p :: putD hs p true l else if done = false ∧ klt hs p.1 q.1 then p :: q :: putD hs p true l else q :: putD hs p done l
def putL (hs : Ky → Nat) (p : Pr) (l : List Pr) : List Pr := putD hs p false l
def takeL (k : Ky) (l : List Pr) : List Pr := l.filter (fun q => decide (q.1 ≠ k))
def lookL (k : Ky) (l : List Pr) : Option Ky := (l.find? (fun q => decide (q.1 = k))).map Prod.snd
theorem putD_true {p : Pr} : ∀ {l : List Pr}, (∀ q ∈ l, klt hs p.1 q.1) → putD hs p true l = l
  | [], _ => rfl
  | q :: l, h => by
    have h1 : q.1 ≠ p.1 := fun e => klt_irrefl p.1 (by have := h q (by simp); rwa [e] at this)
    unfold putD
    rw [if_neg h1, if_neg (by simp), putD_true fun x hx => h x (by simp [hx])]
theorem putL_spec {p : Pr} : ∀ {l : List Pr}, Srt hs l → Srt hs (putL hs p l) ∧ ∀ q, q ∈ putL hs p l ↔ q = p ∨ (q ∈ l ∧ q.1 ≠ p.1)
  | [], _ => ⟨by unfold putL putD; simp, fun q => by unfold putL putD; simp⟩
  | x :: l, h => by
    obtain ⟨h1, h2⟩ := List.pairwise_cons.1 h
    obtain ⟨i1, i2⟩ := putL_spec (p := p) h2
    unfold putL putD
    by_cases e : x.1 = p.1
    · rw [if_pos e, putD_true fun q hq => by rw [← e]; exact h1 q hq]
      refine ⟨List.pairwise_cons.2 ⟨fun q hq => by rw [← e]; exact h1 q hq, h2⟩, fun q => ?_⟩
      constructor
      · intro hq
        rcases List.mem_cons.1 hq with rfl | hq
        · exact .inl rfl
        · exact .inr ⟨by simp [hq], fun e' => klt_irrefl p.1 (by have := h1 q hq; rw [e, e'] at this; exact this)⟩
      · rintro (rfl | ⟨hq, hne⟩)
        · simp
        · rcases List.mem_cons.1 hq with rfl | hq
          · exact absurd e hne
          · simp [hq]
    · rw [if_neg e]
      by_cases hk : klt hs p.1 x.1
      · rw [if_pos ⟨rfl, hk⟩, putD_true fun q hq => klt_trans hk (h1 q hq)]
        refine ⟨List.pairwise_cons.2 ⟨fun q hq => ?_, h⟩, fun q => ?_⟩
        · rcases List.mem_cons.1 hq with rfl | hq
          · exact hk
          · exact klt_trans hk (h1 q hq)
        · constructor
          · intro hq
            rcases List.mem_cons.1 hq with rfl | hq
            · exact .inl rfl
            · refine .inr ⟨hq, fun e' => ?_⟩
              rcases List.mem_cons.1 hq with rfl | hq
              · exact e e'
              · exact klt_irrefl p.1 (by have := klt_trans hk (h1 q hq); rwa [e'] at this)
          · rintro (rfl | ⟨hq, _⟩)
            · simp
            · simp [List.mem_cons.1 hq]
      · rw [if_neg (fun h => hk h.2)]
        have hxp : klt hs x.1 p.1 := (klt_total e).resolve_right hk
        refine ⟨List.pairwise_cons.2 ⟨fun q hq => ?_, i1⟩, fun q => ?_⟩
        · rcases (i2 q).1 hq with rfl | ⟨hq, _⟩
          · exact hxp
          · exact h1 q hq
        · constructor
          · intro hq
            rcases List.mem_cons.1 hq with rfl | hq
            · exact .inr ⟨by simp, e⟩
            · rcases (i2 q).1 hq with rfl | ⟨hq, hne⟩
              · exact .inl rfl
              · exact .inr ⟨by simp [hq], hne⟩
          · rintro (rfl | ⟨hq, hne⟩)
            · exact List.mem_cons_of_mem _ ((i2 q).2 (.inl rfl))
            · rcases List.mem_cons.1 hq with rfl | hq
              · simp
              · exact List.mem_cons_of_mem _ ((i2 q).2 (.inr ⟨hq, hne⟩))
theorem takeL_spec {k : Ky} {l : List Pr} (h : Srt hs l) : Srt hs (takeL k l) ∧ ∀ q, q ∈ takeL k l ↔ q ∈ l ∧ q.1 ≠ k :=
  ⟨h.filter _, fun q => by unfold takeL; rw [List.mem_filter]; simp⟩
theorem putL_uniq {p : Pr} {l m : List Pr} (hl : Srt hs l) (hm : Srt hs m) (h : ∀ q, q ∈ m ↔ q = p ∨ (q ∈ l ∧ q.1 ≠ p.1)) : m = putL hs p l :=
  hm.ext (putL_spec hl).1 fun q => (h q).trans ((putL_spec hl).2 q).symm
theorem takeL_uniq {k : Ky} {l m : List Pr} (hl : Srt hs l) (hm : Srt hs m) (h : ∀ q, q ∈ m ↔ q ∈ l ∧ q.1 ≠ k) : m = takeL k l :=
  hm.ext (takeL_spec hl).1 fun q => (h q).trans ((takeL_spec hl).2 q).symm
def hasB (k : Ky) (l : List Pr) : Bool := l.any (fun q => decide (q.1 = k))
theorem hasB_iff {k : Ky} {l : List Pr} : hasB k l = true ↔ ∃ q ∈ l, q.1 = k := by
  unfold hasB
  rw [List.any_eq_true]
  simp
theorem putL_length {p : Pr} : ∀ {l : List Pr}, Srt hs l → (putL hs p l).length = if hasB p.1 l = true then l.length else l.length + 1
  | [], _ => rfl
  | x :: l, h => by
    obtain ⟨h1, h2⟩ := List.pairwise_cons.1 h
    have ih := putL_length (p := p) h2
    unfold putL at ih ⊢
    unfold putD
    by_cases e : x.1 = p.1
    · rw [if_pos e, putD_true fun q hq => by rw [← e]; exact h1 q hq, if_pos (hasB_iff.2 ⟨x, by simp, e⟩)]
      rfl
    · rw [if_neg e]
      by_cases hk : klt hs p.1 x.1
      · rw [if_pos ⟨rfl, hk⟩, putD_true fun q hq => klt_trans hk (h1 q hq)]
        have hno : ¬ hasB p.1 (x :: l) = true := fun hm => by
          obtain ⟨q, hq, eq⟩ := hasB_iff.1 hm
          rcases List.mem_cons.1 hq with rfl | hq
          · exact e eq
          · exact klt_irrefl p.1 (by have := klt_trans hk (h1 q hq); rwa [eq] at this)
        rw [if_neg hno]
        rfl
      · rw [if_neg (fun h => hk h.2)]
        have hb : hasB p.1 (x :: l) = hasB p.1 l := by
          unfold hasB
          rw [List.any_cons, decide_eq_false e, Bool.false_or]
        rw [hb, List.length_cons, ih, List.length_cons]
        split <;> rfl
theorem lookL_some {k v : Ky} {l : List Pr} (h : Srt hs l) : lookL k l = some v ↔ (k, v) ∈ l := by
  unfold lookL
  constructor
  · intro e
    obtain ⟨q, hq, rfl⟩ := Option.map_eq_some_iff.1 e
    have h1 := List.find?_some hq
    have h2 := List.mem_of_find?_eq_some hq
    rw [decide_eq_true_eq] at h1
    rw [← h1]
    exact h2
  · intro hm
    cases e : l.find? (fun q => decide (q.1 = k)) with
    | none =>
      have := List.find?_eq_none.1 e (k, v) hm
      simp at this
    | some q =>
      have h1 := List.find?_some e
      have h2 := List.mem_of_find?_eq_some e
      rw [decide_eq_true_eq] at h1
      rw [h.key_inj h2 hm h1]
      rfl
theorem lookL_none {k : Ky} {l : List Pr} : lookL k l = none ↔ ∀ q ∈ l, q.1 ≠ k := by
  unfold lookL
  rw [Option.map_eq_none_iff, List.find?_eq_none]
  simp
end

end Go.Proofs.YtghbbpbhbinioaaGreat

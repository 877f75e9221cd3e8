/- Slices of bytes: what one reads as; rows of bytes of a call's own; appending and converting. Of the dump only the numbers of the types uint8, []uint8 and string. -/
import Derived.Test.YtgcnnmhjadfgkaaProg
import Derived.Test.YtgcnnmhjadfgkaaWorld
import Derived.Laws.OwnMore
import Derived.Lib.AppendStr
import Derived.Lib.ConvBytes
import Derived.Laws.BytesArg
import Derived.Lib.Endian
import Derived.OwnWalk
namespace Go.Proofs.Ytgcnnmhjadfgkaa
open Go.RowKit

/-- Bytes as cells. -/
def bc (l : List UInt8) : List Value := l.map fun b => Value.int .u8 (b.toNat : Int)
theorem bc_length (l : List UInt8) : (bc l).length = l.length := by simp [bc]
theorem bc_append (l m : List UInt8) : bc (l ++ m) = bc l ++ bc m := by simp [bc]
theorem bc_at (l : List UInt8) (j : Nat) : (bc l)[j]? = l[j]?.map fun b => Value.int .u8 (b.toNat : Int) := by simp [bc]
theorem bc_one (l : List UInt8) : ∀ u ∈ bc l, u.oneCell' = true := by
  intro u hu
  obtain ⟨b, _, rfl⟩ := List.mem_map.1 hu
  rfl
theorem bc_str (s : ByteArray) : Lib.strCells s = bc s.data.toList := rfl

theorem u8_info : (Try.prog.info? 5).map (fun i => (i.zero, i.size, i.bytes)) = some (some (.int .u8 0), 1, 1) := by kernel_rfl

/-- The slice value v reads as the bytes l. -/
def Bs (w : World) (v : Value) (l : List UInt8) : Prop :=
  (v = .slice none 0 0 ∧ l = []) ∨ ∃ (a : Addr) (c : Nat), v = .slice (some a) l.length c ∧ l.length ≤ c ∧ c ≤ maxLen ∧ ∀ j x, l[j]? = some x → w.cell? (a.add j) = some (.int .u8 (x.toNat : Int))

/-- The slice value v is a row of the call's own (from block B on), and holds the bytes l. -/
def Own (w : World) (B : Nat) (v : Value) (l : List UInt8) : Prop := w.ownsRow B 5 1 v l.length (bc l)

section
variable {w w' : World} {v : Value} {l m : List UInt8} {B : Nat}
theorem Bs.nil (w : World) : Bs w (.slice none 0 0) [] := .inl ⟨rfl, rfl⟩
theorem Bs.form (h : Bs w v l) : ∃ A c, v = .slice A l.length c ∧ l.length ≤ c := by
  rcases h with ⟨rfl, rfl⟩ | ⟨a, c, rfl, hc, _⟩
  · exact ⟨none, 0, rfl, Nat.le_refl _⟩
  · exact ⟨_, c, rfl, hc⟩
theorem Bs.keep (h : Bs w v l) (hk : ∀ (p : Addr) u, w.cell? p = some u → v.ownBlock = some p.block → w'.cell? p = some u) : Bs w' v l := by
  rcases h with h | ⟨a, c, rfl, hc, hm, hx⟩
  · exact .inl h
  · refine .inr ⟨a, c, rfl, hc, hm, fun j x hj => hk _ _ (hx j x hj) ?_⟩
    unfold Addr.add; split <;> rfl
theorem Bs.below (h : Bs w v l) (hb : Below w.heap.size w w') : Bs w' v l :=
  h.keep fun p _ hu _ => (hb.cell (World.block_lt_of_cell? w p hu)).trans hu
theorem Bs.grown (h : Bs w v l) {row : Option Nat} (hg : w.grownBy w' row) (hne : v.ownBlock = none ∨ v.ownBlock ≠ row) : Bs w' v l :=
  h.keep fun _ _ hu hv => hg.cell hu (fun e => by
    rcases hne with hn | hn
    · rw [hn] at hv; cases hv
    · exact hn (hv.trans e))
theorem Bs.alloc (h : Bs w v l) (o : Obj) : Bs (w.alloc o) v l := h.below ((Below.refl _ _).alloc (Nat.le_refl _) o)
theorem Bs.drew (h : Bs w v l) : Bs w.drew v l := h
theorem Bs.drewN (h : Bs w v l) (n : Nat) : Bs (w.drewN n) v l := h
/-- A byte of it, at an address as the walk spells it. -/
theorem Bs.at (h : Bs w v l) {j : Nat} (hj : j < l.length) : ∃ b o c, v = .slice (some ⟨b, o, none⟩) l.length c ∧ w.cell? ⟨b, o + j, none⟩ = some (.int .u8 (l[j].toNat : Int)) := by
  rcases h with ⟨_, rfl⟩ | ⟨⟨b, o, sp⟩, c, rfl, _, _, hx⟩
  · simp at hj
  · have h0 := hx 0 l[0] (List.getElem?_eq_getElem (by omega))
    obtain rfl : sp = none := by simpa [Addr.add] using World.cell?_spot h0
    refine ⟨b, o, c, rfl, ?_⟩
    have := hx j l[j] (List.getElem?_eq_getElem hj)
    rwa [show (⟨b, o, none⟩ : Addr).add j = ⟨b, o + j, none⟩ by unfold Addr.add; split <;> simp_all] at this

/-- What lies at its address. -/
theorem Bs.src {A : Option Addr} {n c : Nat} (h : Bs w (.slice A n c) l) (hp : 0 < l.length) : ∃ a, A = some a ∧ ∀ j u, (bc l)[j]? = some u → w.cell? (a.add j) = some u := by
  rcases h with ⟨_, rfl⟩ | ⟨a, c', e, _, _, hx⟩
  · simp at hp
  · injection e with e1
    refine ⟨a, e1, fun j u hu => ?_⟩
    rw [bc_at] at hu
    obtain ⟨x, hx', rfl⟩ := Option.map_eq_some_iff.1 hu
    exact hx j x hx'

theorem Own.nil (w : World) (B : Nat) : Own w B (.slice none 0 0) [] := World.ownsRow_nil w B _ 1
theorem Own.bs (h : Own w B v l) : Bs w v l := by
  rcases h.2 with ⟨rfl, hn⟩ | ⟨g, cap, cur, rfl, _, hg, hc, hm, _⟩
  · exact .inl ⟨rfl, List.eq_nil_of_length_eq_zero hn⟩
  · exact .inr ⟨_, cap, rfl, hc, hm, fun j x hj => World.ownsRow.cells h rfl j _ (by rw [bc_at, hj]; rfl)⟩
theorem Own.grown (h : Own w B v l) {row : Option Nat} (hg : w.grownBy w' row) (hne : v.ownBlock = none ∨ v.ownBlock ≠ row) : Own w' B v l := World.ownsRow.kept h hg hne
theorem grownBy_of_below (hb : Below w.heap.size w w') (row : Option Nat) : w.grownBy w' row := ⟨hb.os, hb.tape, hb.output, hb.size, fun k hk _ => hb.block k hk⟩
theorem Own.below (h : Own w B v l) (hb : Below w.heap.size w w') : Own w' B v l := h.grown (grownBy_of_below hb none) (by cases v.ownBlock <;> simp)
theorem Own.alloc (h : Own w B v l) (o : Obj) : Own (w.alloc o) B v l := h.below ((Below.refl _ _).alloc (Nat.le_refl _) o)
theorem Own.drew (h : Own w B v l) : Own w.drew B v l := h
theorem Own.drewN (h : Own w B v l) (n : Nat) : Own (w.drewN n) B v l := h
theorem Own.less {B' : Nat} (h : Own w B v l) (hB : B' ≤ B) : Own w B' v l := by
  refine ⟨h.1, ?_⟩
  rcases h.2 with hn | ⟨g, cap, cur, hv, hb, rest⟩
  · exact .inl hn
  · exact .inr ⟨g, cap, cur, hv, Nat.le_trans hB hb, rest⟩
theorem Own.blk (h : Own w B v l) : ∀ k, v.ownBlock = some k → B ≤ k ∧ k < w.heap.size := World.ownsRow.lt h
/-- A row that one literal made. -/
theorem Own.lit (w : World) (l : List UInt8) (hB : B ≤ w.heap.size) (hl : l.length ≤ maxLen) : Own (w.alloc (.cells (bc l).toArray 5)) B (.slice (some ⟨w.heap.size, 0, none⟩) l.length l.length) l := by
  have := World.ownsRow_lit (base := B) (e := 5) (size := 1) w (bc l).toArray l.length hB hl (by simp [bc_length])
  exact this
theorem Own.single (w : World) (z : Int) (x : UInt8) (h : z = (x.toNat : Int)) (hB : B ≤ w.heap.size) : Own (w.alloc (.cells #[.int .u8 z] 5)) B (.slice (some ⟨w.heap.size, 0, none⟩) 1 1) [x] := by
  have := Own.lit (B := B) w [x] hB (by unfold maxLen; simp)
  simpa [bc, h] using this
theorem Own.boxed (w : World) (o : Obj) (z : Int) (x : UInt8) (h : z = (x.toNat : Int)) : Own ((w.alloc o).alloc (.cells #[.int .u8 z] 5)) w.heap.size (.slice (some ⟨w.heap.size + 1, 0, none⟩) 1 1) [x] := by
  have := Own.single (B := w.heap.size) (w.alloc o) z x h (by simp)
  simpa using this
/-- One byte, in a block of its own. -/
theorem Bs.single (w : World) (z : Int) (x : UInt8) (t : TypeId) (h : z = (x.toNat : Int)) (b : Nat) (hb : b = w.heap.size) : Bs (w.alloc (.cells #[.int .u8 z] t)) (.slice (some ⟨b, 0, none⟩) 1 1) [x] := by
  subst hb
  refine .inr ⟨_, 1, rfl, Nat.le_refl _, by unfold maxLen; omega, fun j y hj => ?_⟩
  match j, hj with
  | 0, hj => simp at hj; subst hj; simp [Addr.add, go_sem, h]
end

theorem below_trans {a b c : World} (h : Below a.heap.size a b) (k : Below b.heap.size b c) : Below a.heap.size a c := h.trans (k.mono h.size)
theorem below_drawn {a w : World} {B : Nat} (h : Below B a w) (n : Nat) : Below B a (w.drewN n) where
  os := h.os
  tape := h.tape
  output := h.output
  size := h.size
  block := h.block

/-- A row's own growing, seen from the world in which the call began. -/
theorem below_ownB {a w w' : World} {v : Value} {l : List UInt8} (hb : Below a.heap.size a w) (hown : Own w a.heap.size v l) (hg : w.grownBy w' v.ownBlock) : Below a.heap.size a w' :=
  hb.grown hg hb.size fun k e => (hown.blk k e).1

section
variable {P : Program} {w : World}

theorem run_append_bs (B : Nat) (t ty : TypeId) (i : TypeInfo) (ht : P.underlying t = some (.slice 5)) (hi : P.info? 5 = some i) (hz : i.zero = some (.int .u8 0)) (hsize : i.size = 1) (hby : i.bytes = 1)
    (v : Value) (l : List UInt8) (hown : Own w B v l) (y : Value) (m : List UInt8) (hy : Bs w y m) (h47 : l.length + m.length ≤ 140737488355328) (hB : B ≤ w.heap.size) :
    ∃ v' w', (Builtin.append_ #[t, t] ty #[v, y]).run P w = .ok v' w' ∧ Own w' B v' (l ++ m) ∧ w.grownBy w' v.ownBlock := by
  rcases hy with ⟨rfl, rfl⟩ | ⟨a, c, rfl, _, _, hc⟩
  · refine ⟨v, w, run_append_owned_none w B t ty 5 i 1 ht hi v _ _ hown, by simpa using hown, ⟨rfl, rfl, rfl, Nat.le_refl _, fun _ _ _ => rfl⟩⟩
  · obtain ⟨v', w', hr, ho, hg, _⟩ := run_append_own (P := P) w B t ty 5 i (.int .u8 0) 1 1 ht hi hz hsize hby rfl (by decide) v l.length (bc l) hown a m.length c (bc m) (by simp [bc_length])
      (fun j u hu => by
        rw [bc_at] at hu
        obtain ⟨x, hx, rfl⟩ := Option.map_eq_some_iff.1 hu
        exact hc j x hx) (bc_one m) (by unfold maxLen; omega) (by omega) hB
    exact ⟨v', w', hr, by unfold Own; rw [bc_append, List.length_append]; exact ho, hg⟩

theorem wpList_append_bs {ops : Array Oper} {rest : List Oper} {o : Oper} {a : Act} {Q : Exit → Act → World → Prop} (hgd : o.guard = none) (s x : Operand) (t : TypeId)
    (ho : o.op = .call { callee := .builtin .append, args := #[s, x], argTypes := #[t, t] })
    (B : Nat) (i : TypeInfo) (ht : P.underlying t = some (.slice 5)) (hi : P.info? 5 = some i) (hz : i.zero = some (.int .u8 0)) (hsize : i.size = 1) (hby : i.bytes = 1)
    (v : Value) (l : List UInt8) (hs : a.eval s = v) (hown : Own w B v l) (y : Value) (m : List UInt8) (hx : a.eval x = y) (hy : Bs w y m) (h47 : l.length + m.length ≤ 140737488355328) (hB : B ≤ w.heap.size)
    (h : ∀ v' w', Own w' B v' (l ++ m) → w.grownBy w' v.ownBlock → wpList P ops Q rest (a.put o.dst v') w') : wpList P ops Q (o :: rest) a w := by
  obtain ⟨v', w', hrun, h2, h3⟩ := run_append_bs (P := P) (w := w) B t o.type i ht hi hz hsize hby v l hown y m hy h47 hB
  refine wpList_plain hgd fun K hK => ?_
  unfold Oper.wp execOp
  simp only [ho, resolve, invoke, builtin, Sem.run_bind, Sem.run_pure, Result.andThen_ok, List.map_toArray, List.map_cons, List.map_nil, hs, hx, hrun]
  exact hK _ _ (h v' w' h2 h3)

/-- append(b, s...) of a string's bytes. -/
theorem wpList_append_str {ops : Array Oper} {rest : List Oper} {o : Oper} {a : Act} {Q : Exit → Act → World → Prop} (hgd : o.guard = none) (sl x : Operand) (t u : TypeId)
    (ho : o.op = .call { callee := .builtin .append, args := #[sl, x], argTypes := #[t, u] })
    (B : Nat) (i : TypeInfo) (ht : P.underlying t = some (.slice 5)) (hu : P.underlying u = some .string) (hi : P.info? 5 = some i) (hz : i.zero = some (.int .u8 0)) (hsize : i.size = 1) (hby : i.bytes = 1)
    (v : Value) (l : List UInt8) (hs : a.eval sl = v) (hown : Own w B v l) (s : ByteArray) (hx : a.eval x = .string s) (h47 : l.length + s.size ≤ 140737488355328) (hB : B ≤ w.heap.size)
    (h : ∀ v' w', Own w' B v' (l ++ s.data.toList) → w.grownBy w' v.ownBlock → wpList P ops Q rest (a.put o.dst v') w') : wpList P ops Q (o :: rest) a w :=
  Lib.wpList_append_own_string w hgd sl x t u ho B 5 i ht hu hi hz hsize hby v l.length (bc l) hs hown s hx (by unfold maxLen; omega) h47 hB fun v' w' h2 h3 _ =>
    h v' w' (by unfold Own; rw [bc_append, List.length_append, Array.length_toList]; exact h2) h3

/-- string(b). -/
theorem run_str {src dst : TypeId} {v : Value} {l : List UInt8} (hs : P.underlying src = some (.slice 5)) (he : P.underlying 5 = some (.int .u8)) (hd : P.underlying dst = some .string) (h : Bs w v l) :
    (convert src dst v).run P w = .ok (.string ⟨l.toArray⟩) w := by
  have e0 : (⟨([] : List UInt8).toArray⟩ : ByteArray) = ByteArray.empty := rfl
  have empty : ∀ (A : Option Addr) c, l = [] → (convert src dst (.slice A 0 c)).run P w = .ok (.string ⟨l.toArray⟩) w := fun A c hl => by
    subst hl
    rw [run_convert_bytes_string w src dst 5 _ 0 c hs he hd]
    cases A with
    | none => simp [Conv.bytesToString, e0]
    | some a => rw [run_bytesToString w a 0 c [] (by simp [loadCells, loadCellsFrom])]; rfl
  by_cases hl : l = []
  · obtain ⟨A, c, rfl, _⟩ := h.form
    rw [show l.length = 0 by simp [hl]]
    exact empty A c hl
  · have hpos : 0 < l.length := List.length_pos_iff.2 hl
    obtain ⟨b, o, c, rfl, _⟩ := h.at hpos
    have key := run_convert_bytes_arg (P := P) w src 5 hs he b o l.length c (l.map fun x => (x.toNat : Int)) (by simp) (fun i hi => by
      obtain ⟨b', o', c', e, hc⟩ := h.at hi
      simp only [Value.slice.injEq, Option.some.injEq, Addr.mk.injEq, and_true, true_and] at e
      obtain ⟨⟨rfl, rfl⟩, rfl⟩ := e
      rw [hc]
      simp [List.getD, List.getElem?_eq_getElem hi]) dst hd
    rw [key]
    congr 2
    unfold strOfNums
    congr 1
    apply Array.ext'
    simp only [List.map_map]
    conv => rhs; rw [← List.map_id l]
    apply List.map_congr_left
    intro x _
    simp
end

end Go.Proofs.Ytgcnnmhjadfgkaa

/- Slices of values as lists; such a slice as an argument, opened. For every layer. -/
import Derived.Test.YtgkhbnkbhcginaaProg
import Derived.Test.YtgkhbnkbhcginaaWorld
import Derived.OpenShut
import Derived.ShutString
import Derived.Lib.SmallJoins
import Derived.Lib.Hide
import Derived.SizedLaws
namespace Go.Proofs.Ytgkhbnkbhcginaa
open Go.ChangeShapes Go.WideShapes Go.ChangeAt Go.RowKit Go.Joins Go.Deep

/-- A value's parts: kind, number, bytes. -/
abbrev V3 := Int × Int × ByteArray

/-- The slice that begins at A holds these values. -/
def Lst (w : World) (A : Option Addr) (l : List V3) : Prop :=
  l = [] ∨ ∃ b o, A = some ⟨b, o, none⟩ ∧ b < w.heap.size ∧ ∀ i x, l[i]? = some x →
    w.cell? ⟨b, o + i * 3, none⟩ = some (.int .u8 x.1) ∧ w.cell? ⟨b, o + i * 3 + 1, none⟩ = some (.int .i64 x.2.1) ∧ w.cell? ⟨b, o + i * 3 + 2, none⟩ = some (.string x.2.2)

theorem Lst.grow {w w' : World} {A : Option Addr} {l : List V3} (h : Lst w A l) (g : Gw w w') : Lst w' A l := by
  rcases h with h | ⟨b, o, hA, hb, hc⟩
  · exact .inl h
  · refine .inr ⟨b, o, hA, Nat.lt_of_lt_of_le hb g.size, fun i x hx => ?_⟩
    obtain ⟨c0, c1, c2⟩ := hc i x hx
    exact ⟨(g.cell hb).trans c0, (g.cell hb).trans c1, (g.cell hb).trans c2⟩
theorem Lst.at {w : World} {A : Option Addr} {l : List V3} (h : Lst w A l) {i : Nat} {x : V3} (hi : l[i]? = some x) : ∃ b o, A = some ⟨b, o, none⟩ ∧ b < w.heap.size ∧
    w.cell? ⟨b, o + i * 3, none⟩ = some (.int .u8 x.1) ∧ w.cell? ⟨b, o + i * 3 + 1, none⟩ = some (.int .i64 x.2.1) ∧ w.cell? ⟨b, o + i * 3 + 2, none⟩ = some (.string x.2.2) := by
  rcases h with h | ⟨b, o, hA, hb, hc⟩
  · subst h; simp at hi
  · exact ⟨b, o, hA, hb, hc i x hi⟩

/-- The i-th value, in all worlds that grow out of this one. -/
theorem Lst.gr {w : World} {A : Option Addr} {l : List V3} (h : Lst w A l) {i : Nat} {x : V3} (hi : l[i]? = some x) : ∃ b o, A = some ⟨b, o, none⟩ ∧
    (∀ g : Gr w, g.at'.cell? ⟨b, o + i * 3, none⟩ = some (.int .u8 x.1)) ∧ (∀ g : Gr w, g.at'.cell? ⟨b, o + i * 3 + 1, none⟩ = some (.int .i64 x.2.1)) ∧ (∀ g : Gr w, g.at'.cell? ⟨b, o + i * 3 + 2, none⟩ = some (.string x.2.2)) := by
  obtain ⟨b, o, hA, hb, c0, c1, c2⟩ := h.at hi
  exact ⟨b, o, hA, Gr.cell c0 hb, Gr.cell c1 hb, Gr.cell c2 hb⟩

theorem Gr.again {w : World} {p : Addr} {v : Value} (h : ∀ g : Gr w, g.at'.cell? p = some v) (g : Gr w) : ∀ g' : Gr g.at', g'.at'.cell? p = some v := fun g' => h ⟨g'.at', g.grown.trans g'.grown⟩

theorem vcells : Try.prog.cellsOf 38 = 3 := by kernel_rfl
theorem vbytes : Try.prog.bytesOf 38 = 32 := by kernel_rfl

theorem cellsK : Try.prog.cellsOf 36 = 1 := by kernel_rfl
theorem cellsN : Try.prog.cellsOf 2 = 1 := by kernel_rfl
theorem cellsS : Try.prog.cellsOf 9 = 1 := by kernel_rfl

section
variable {H : Type} {enc : TypeId × Value → H} {W : World} {base : Nat} {sp : Nat → Bool} {held : Bool}
set_option maxRecDepth 20000 in
theorem elem3 {cs : List Value} {n : Nat} {x : DataW H × List MemPlace} (h : DataW.trod enc Try.prog W base sp held n 38 cs = some x) :
    ∃ (k m : Int) (s : ByteArray), cs = [.int .u8 k, .int .i64 m, .string s] ∧ (Lit.int .u8 k).wf = true ∧ s.size ≤ maxLen := by
  obtain ⟨xs, n', _, hx, hlen, hxl, hf⟩ := DataW.trod_struct Try.underlying38 h
  rw [vcells] at hlen
  match cs, hlen with
  | [c0, c1, c2], _ =>
    have hxl' : xs.length = 3 := hxl
    match xs, hxl' with
    | [y0, y1, y2], _ =>
      have f0 : DataW.trod enc Try.prog W base sp held n' 36 [c0] = some y0 := by simpa [cellsK] using hf 0 _ rfl
      have f1 : DataW.trod enc Try.prog W base sp held n' 2 [c1] = some y1 := by simpa [cellsN] using hf 1 _ rfl
      have f2 : DataW.trod enc Try.prog W base sp held n' 9 [c2] = some y2 := by simpa [cellsS] using hf 2 _ rfl
      obtain ⟨k, e0, _, wk⟩ := DataW.trod_int Try.underlying36 f0
      obtain ⟨m, e1, _, _⟩ := DataW.trod_int Try.underlying2 f1
      obtain ⟨s, e2, _, ws⟩ := DataW.trod_string Try.underlying9 f2
      simp at e0 e1 e2
      subst e0 e1 e2
      exact ⟨k, m, s, rfl, wk, ws⟩

set_option maxRecDepth 20000 in
/-- A slice of values, opened: the list that it holds. -/
theorem open_values {v : Value} {d : DataW H} {p : List MemPlace} {r : Reach} {b0 : Nat} (hv : Value.okWide Try.prog W r b0 31 v) (h : DataW.Trod enc Try.prog W 0 (fun _ => true) true 31 v d p) :
    ∃ (A : Option Addr) (l : List V3) (c : Nat), v = .slice A l.length c ∧ Lst W A l ∧ (∀ x ∈ l, 0 ≤ x.1 ∧ x.1 ≤ 255) ∧ (∀ x ∈ l, x.2.2.size ≤ 9223372036854775807) ∧ (l = [] ∨ ∃ es ss, d = .slice es ss ∧ es.length = l.length) := by
  obtain ⟨a, len, cap, rfl⟩ := okWide_slice Try.underlying31 hv
  obtain ⟨fuel, hf⟩ := h
  rcases open_slice Try.underlying31 hf with ⟨hcs, _⟩ | ⟨a', len', cap', m, n, D, Pl, hcs, _, hl, hm, hmm, hx, hi⟩
  · simp [Value.cells] at hcs
    obtain ⟨rfl, rfl, rfl⟩ := hcs
    exact ⟨none, [], 0, rfl, .inl rfl, by simp, by simp, .inl rfl⟩
  · simp [Value.cells] at hcs
    obtain ⟨rfl, rfl, rfl⟩ := hcs
    simp only [if_true] at hmm
    subst hmm
    have hel : ∀ i, ∃ x : V3, i < len → ((0 ≤ x.1 ∧ x.1 ≤ 255) ∧ x.2.2.size ≤ 9223372036854775807 ∧ W.cell? (a'.add (i * 3)) = some (.int .u8 x.1) ∧ W.cell? ((a'.add (i * 3)).add 1) = some (.int .i64 x.2.1) ∧ W.cell? ((a'.add (i * 3)).add 2) = some (.string x.2.2)) := fun i => by
      by_cases hlt : i < len
      · obtain ⟨cs', hc, ht⟩ := hi i (by omega)
        rw [vcells] at hc
        obtain ⟨_, _, hat⟩ := World.cells?_some hc
        obtain ⟨k, q, s, rfl, wk, ws⟩ := elem3 ht
        refine ⟨(k, q, s), fun _ => ⟨bounds_u8 wk, by unfold maxLen at ws; simpa using ws, ?_, ?_, ?_⟩⟩
        · simpa [Addr.add] using hat 0 (by omega)
        · simpa using hat 1 (by omega)
        · simpa using hat 2 (by omega)
      · exact ⟨(0, 0, ⟨#[]⟩), fun h => absurd h hlt⟩
    obtain ⟨f, hf'⟩ := Classical.axiomOfChoice hel
    refine ⟨some a', (List.range len).map f, m, by simp, ?_, ?_, ?_, .inr ⟨_, _, by rw [Prod.mk.injEq] at hx; exact hx.1, by simp⟩⟩
    · by_cases h0 : len = 0
      · subst h0; exact .inl rfl
      · right
        obtain ⟨b, o, spot⟩ := a'
        obtain rfl : spot = none := by simpa [Addr.add] using World.cell?_spot (hf' 0 (by omega)).2.2.1
        refine ⟨b, o, rfl, World.block_lt_of_cell? W ⟨b, o, none⟩ (by simpa [Addr.add] using (hf' 0 (by omega)).2.2.1), fun i x hx => ?_⟩
        simp only [List.getElem?_map, Option.map_eq_some_iff] at hx
        obtain ⟨i', hi', rfl⟩ := hx
        obtain ⟨hlt, rfl⟩ := List.getElem?_eq_some_iff.1 hi'
        simp only [List.length_range] at hlt
        simp only [List.getElem_range]
        obtain ⟨_, _, c0, c1, c2⟩ := hf' i hlt
        rw [add_plain] at c0 c1 c2
        rw [add_plain] at c1 c2
        exact ⟨c0, c1, c2⟩
    · intro x hx
      obtain ⟨i, hi', rfl⟩ := List.mem_map.1 hx
      exact (hf' i (List.mem_range.1 hi')).1
    · intro x hx
      obtain ⟨i, hi', rfl⟩ := List.mem_map.1 hx
      exact (hf' i (List.mem_range.1 hi')).2.1
end

/-- A value's three cells. -/
def cells3 (x : V3) : List Value := [.int .u8 x.1, .int .i64 x.2.1, .string x.2.2]
theorem flat_len : ∀ l : List V3, (l.flatMap cells3).length = l.length * 3
  | [] => rfl
  | x :: l => by rw [List.flatMap_cons, List.length_append, flat_len l, List.length_cons]; simp [cells3]; omega
theorem flat_get : ∀ (l : List V3) (i : Nat) (x : V3), l[i]? = some x → ∀ t, t < 3 → (l.flatMap cells3)[i * 3 + t]? = (cells3 x)[t]?
  | [], i, x, h, _, _ => by simp at h
  | y :: l, 0, x, h, t, ht => by
    simp at h
    subst h
    rw [List.flatMap_cons, List.getElem?_append_left (by simpa [cells3] using ht), Nat.zero_mul, Nat.zero_add]
  | y :: l, i + 1, x, h, t, ht => by
    have h' : l[i]? = some x := by simpa using h
    rw [List.flatMap_cons, List.getElem?_append_right (by simp [cells3]; omega), ← flat_get l i x h' t ht]
    congr 1
    simp [cells3]; omega
theorem Lst.below {w w' : World} {A : Option Addr} {l : List V3} (h : Lst w A l) (g : Below w.heap.size w w') : Lst w' A l := by
  rcases h with h | ⟨b, o, hA, hb, hc⟩
  · exact .inl h
  · refine .inr ⟨b, o, hA, Nat.lt_of_lt_of_le hb g.size, fun i x hx => ?_⟩
    obtain ⟨c0, c1, c2⟩ := hc i x hx
    exact ⟨(g.cell (p := ⟨b, _, none⟩) hb).trans c0, (g.cell (p := ⟨b, _, none⟩) hb).trans c1, (g.cell (p := ⟨b, _, none⟩) hb).trans c2⟩
theorem Lst.grown {w w' : World} {A : Option Addr} {l : List V3} {g : Nat} (h : Lst w A l) (hg : w.grownBy w' (some g)) (hA : ∀ a, A = some a → l ≠ [] → a.block ≠ g) : Lst w' A l := by
  by_cases hl : l = []
  · exact .inl hl
  rcases h with h | ⟨b, o, rfl, hb, hc⟩
  · exact .inl h
  · have hne : some b ≠ some g := fun e => hA _ rfl hl (by injection e)
    refine .inr ⟨b, o, rfl, Nat.lt_of_lt_of_le hb hg.size, fun i x hx => ?_⟩
    obtain ⟨c0, c1, c2⟩ := hc i x hx
    exact ⟨hg.cell c0 hne, hg.cell c1 hne, hg.cell c2 hne⟩


end Go.Proofs.Ytgkhbnkbhcginaa

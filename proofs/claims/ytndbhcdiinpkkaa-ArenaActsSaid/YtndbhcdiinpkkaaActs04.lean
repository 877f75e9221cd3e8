/- Layer 4's law: a slice of acts as an argument, opened. -/
import Derived.Test.YtndbhcdiinpkkaaProg
import Derived.Test.YtndbhcdiinpkkaaWorld
import Derived.OpenShut
import Derived.ShutString
import Derived.Lib.SmallJoins
import Derived.Lib.Hide
import Derived.SizedLaws
namespace Go.Proofs.Ytndbhcdiinpkkaa
open Go.ChangeShapes Go.WideShapes Go.ChangeAt Go.RowKit Go.Joins Go.Deep

/-- An act's parts. -/
structure Ac where
  kd : Int
  i : Int
  ow : Int
  p : Int
  q : Int
  wo : Int
def Ac.Fits (x : Ac) : Prop := (0 ≤ x.kd ∧ x.kd ≤ 255) ∧ (0 ≤ x.ow ∧ x.ow ≤ 4294967295) ∧ (0 ≤ x.wo ∧ x.wo ≤ 4294967295)
/-- The six cells at an address. -/
def AcAt (w : World) (b o : Nat) (x : Ac) : Prop :=
  w.cell? ⟨b, o, none⟩ = some (.int .u8 x.kd) ∧ w.cell? ⟨b, o + 1, none⟩ = some (.int .i64 x.i) ∧ w.cell? ⟨b, o + 2, none⟩ = some (.int .u32 x.ow) ∧ w.cell? ⟨b, o + 3, none⟩ = some (.int .i64 x.p) ∧ w.cell? ⟨b, o + 4, none⟩ = some (.int .i64 x.q) ∧ w.cell? ⟨b, o + 5, none⟩ = some (.int .u32 x.wo)
/-- The slice that begins at A holds these acts. -/
def Acts (w : World) (A : Option Addr) (l : List Ac) : Prop :=
  l = [] ∨ ∃ b o, A = some ⟨b, o, none⟩ ∧ b < w.heap.size ∧ ∀ i x, l[i]? = some x → AcAt w b (o + i * 6) x
theorem AcAt.below {w w' : World} {b o : Nat} {x : Ac} (h : AcAt w b o x) (hg : Below w.heap.size w w') (hb : b < w.heap.size) : AcAt w' b o x := by
  obtain ⟨h0, h1, h2, h3, h4, h5⟩ := h
  exact ⟨(hg.cell (p := ⟨b, o, none⟩) hb).trans h0, (hg.cell (p := ⟨b, o + 1, none⟩) hb).trans h1, (hg.cell (p := ⟨b, o + 2, none⟩) hb).trans h2, (hg.cell (p := ⟨b, o + 3, none⟩) hb).trans h3, (hg.cell (p := ⟨b, o + 4, none⟩) hb).trans h4, (hg.cell (p := ⟨b, o + 5, none⟩) hb).trans h5⟩
theorem Acts.below {w w' : World} {A : Option Addr} {l : List Ac} (h : Acts w A l) (hg : Below w.heap.size w w') : Acts w' A l := by
  rcases h with h | ⟨b, o, hA, hb, hc⟩
  · exact .inl h
  · exact .inr ⟨b, o, hA, Nat.lt_of_lt_of_le hb hg.size, fun i x hx => (hc i x hx).below hg hb⟩
theorem Acts.at {w : World} {A : Option Addr} {l : List Ac} (h : Acts w A l) {i : Nat} {x : Ac} (hi : l[i]? = some x) : ∃ b o, A = some ⟨b, o, none⟩ ∧ AcAt w b (o + i * 6) x := by
  rcases h with h | ⟨b, o, hA, _, hc⟩
  · subst h; simp at hi
  · exact ⟨b, o, hA, hc i x hi⟩

theorem acells : Try.prog.cellsOf 38 = 6 := by kernel_rfl
theorem cells8 : Try.prog.cellsOf 5 = 1 := by kernel_rfl
theorem cellsI : Try.prog.cellsOf 3 = 1 := by kernel_rfl
theorem cells32 : Try.prog.cellsOf 35 = 1 := by kernel_rfl
theorem cells2 : Try.prog.cellsOf 36 = 2 := by kernel_rfl

section
variable {H : Type} {enc : TypeId × Value → H} {W : World} {base : Nat} {sp : Nat → Bool} {held : Bool}
set_option maxRecDepth 20000 in
theorem elem6 {cs : List Value} {n : Nat} {x : DataW H × List MemPlace} (h : DataW.trod enc Try.prog W base sp held n 38 cs = some x) :
    ∃ a : Ac, cs = [.int .u8 a.kd, .int .i64 a.i, .int .u32 a.ow, .int .i64 a.p, .int .i64 a.q, .int .u32 a.wo] ∧ a.Fits := by
  obtain ⟨xs, n', _, hx, hlen, hxl, hf⟩ := DataW.trod_struct Try.underlying38 h
  rw [acells] at hlen
  match cs, hlen with
  | [c0, c1, c2, c3, c4, c5], _ =>
    have hxl' : xs.length = 5 := hxl
    match xs, hxl' with
    | [y0, y1, y2, y3, y4], _ =>
      have f0 : DataW.trod enc Try.prog W base sp held n' 5 [c0] = some y0 := by simpa [cells8] using hf 0 _ rfl
      have f1 : DataW.trod enc Try.prog W base sp held n' 3 [c1] = some y1 := by simpa [cellsI] using hf 1 _ rfl
      have f2 : DataW.trod enc Try.prog W base sp held n' 35 [c2] = some y2 := by simpa [cells32] using hf 2 _ rfl
      have f3 : DataW.trod enc Try.prog W base sp held n' 36 [c3, c4] = some y3 := by simpa [cells2] using hf 3 _ rfl
      have f4 : DataW.trod enc Try.prog W base sp held n' 35 [c5] = some y4 := by simpa [cells32] using hf 4 _ rfl
      obtain ⟨zs, n2, _, _, _, hzl, hz⟩ := DataW.trod_array Try.underlying36 f3
      match zs, hzl with
      | [z0, z1], _ =>
        have g0 : DataW.trod enc Try.prog W base sp held n2 3 [c3] = some z0 := by simpa [cellsI] using hz 0 (by omega)
        have g1 : DataW.trod enc Try.prog W base sp held n2 3 [c4] = some z1 := by simpa [cellsI] using hz 1 (by omega)
        obtain ⟨a0, e0, _, w0⟩ := DataW.trod_int Try.underlying5 f0
        obtain ⟨a1, e1, _, _⟩ := DataW.trod_int Try.underlying3 f1
        obtain ⟨a2, e2, _, w2⟩ := DataW.trod_int Try.underlying35 f2
        obtain ⟨a3, e3, _, _⟩ := DataW.trod_int Try.underlying3 g0
        obtain ⟨a4, e4, _, _⟩ := DataW.trod_int Try.underlying3 g1
        obtain ⟨a5, e5, _, w5⟩ := DataW.trod_int Try.underlying35 f4
        simp at e0 e1 e2 e3 e4 e5
        subst e0 e1 e2 e3 e4 e5
        exact ⟨⟨a0, a1, a2, a3, a4, a5⟩, rfl, bounds_u8 w0, bounds_u32 w2, bounds_u32 w5⟩

set_option maxRecDepth 20000 in
/-- A slice of acts, opened: the list that it holds. -/
theorem open_acts {v : Value} {d : DataW H} {p : List MemPlace} {r : Reach} {b0 : Nat} (hv : Value.okWide Try.prog W r b0 22 v) (h : DataW.Trod enc Try.prog W 0 (fun _ => true) true 22 v d p) :
    ∃ (A : Option Addr) (l : List Ac) (c : Nat), v = .slice A l.length c ∧ Acts W A l ∧ (∀ x ∈ l, x.Fits) ∧ (l = [] ∨ ∃ es ss, d = .slice es ss ∧ es.length = l.length) := by
  obtain ⟨a, len, cap, rfl⟩ := okWide_slice Try.underlying22 hv
  obtain ⟨fuel, hf⟩ := h
  rcases open_slice Try.underlying22 hf with ⟨hcs, _⟩ | ⟨a', len', cap', m, n, D, Pl, hcs, _, hl, hm, hmm, hx, hi⟩
  · simp [Value.cells] at hcs
    obtain ⟨rfl, rfl, rfl⟩ := hcs
    exact ⟨none, [], 0, rfl, .inl rfl, by simp, .inl rfl⟩
  · simp [Value.cells] at hcs
    obtain ⟨rfl, rfl, rfl⟩ := hcs
    simp only [if_true] at hmm
    subst hmm
    have hel : ∀ i, ∃ x : Ac, i < len → (x.Fits ∧ W.cell? (a'.add (i * 6)) = some (.int .u8 x.kd) ∧ W.cell? ((a'.add (i * 6)).add 1) = some (.int .i64 x.i) ∧ W.cell? ((a'.add (i * 6)).add 2) = some (.int .u32 x.ow) ∧ W.cell? ((a'.add (i * 6)).add 3) = some (.int .i64 x.p) ∧ W.cell? ((a'.add (i * 6)).add 4) = some (.int .i64 x.q) ∧ W.cell? ((a'.add (i * 6)).add 5) = some (.int .u32 x.wo)) := fun i => by
      by_cases hlt : i < len
      · obtain ⟨cs', hc, ht⟩ := hi i (by omega)
        rw [acells] at hc
        obtain ⟨_, _, hat⟩ := World.cells?_some hc
        obtain ⟨x, rfl, hw⟩ := elem6 ht
        refine ⟨x, fun _ => ⟨hw, ?_, ?_, ?_, ?_, ?_, ?_⟩⟩
        · simpa [Addr.add] using hat 0 (by omega)
        · simpa using hat 1 (by omega)
        · simpa using hat 2 (by omega)
        · simpa using hat 3 (by omega)
        · simpa using hat 4 (by omega)
        · simpa using hat 5 (by omega)
      · exact ⟨⟨0, 0, 0, 0, 0, 0⟩, fun h => absurd h hlt⟩
    obtain ⟨f, hf'⟩ := Classical.axiomOfChoice hel
    refine ⟨some a', (List.range len).map f, m, by simp, ?_, ?_, .inr ⟨_, _, by rw [Prod.mk.injEq] at hx; exact hx.1, by simp⟩⟩
    · by_cases h0 : len = 0
      · subst h0; exact .inl rfl
      · right
        obtain ⟨b, o, spot⟩ := a'
        obtain rfl : spot = none := by simpa [Addr.add] using World.cell?_spot (hf' 0 (by omega)).2.1
        refine ⟨b, o, rfl, World.block_lt_of_cell? W ⟨b, o, none⟩ (by simpa [Addr.add] using (hf' 0 (by omega)).2.1), fun i x hx => ?_⟩
        have hi' : i < len := by
          rcases Nat.lt_or_ge i len with h | h
          · exact h
          · rw [List.getElem?_eq_none (by simpa using h)] at hx; cases hx
        simp [hi'] at hx
        subst hx
        obtain ⟨_, h0, h1, h2, h3, h4, h5⟩ := hf' i hi'
        rw [add_plain] at h0 h1 h2 h3 h4 h5
        rw [add_plain] at h1 h2 h3 h4 h5
        exact ⟨h0, h1, h2, h3, h4, h5⟩
    · intro x hx
      obtain ⟨i, hi', rfl⟩ := List.mem_map.1 hx
      exact (hf' i (List.mem_range.1 hi')).1
end

end Go.Proofs.Ytndbhcdiinpkkaa

/- Layer 15's law: a slice of numbers, and a slice of acts (each with a slice of handles and one of numbers), as arguments, opened. -/
import Derived.Test.YtdhgblkmlkkpeaaDrawn15
import Derived.OpenShut
import Derived.ShutString
import Derived.Lib.SmallJoins
import Derived.Lib.Hide
import Derived.SizedLaws
namespace Go.Proofs.Ytdhgblkmlkkpeaa
set_option maxRecDepth 100000
set_option linter.unusedSimpArgs false
set_option linter.unusedVariables false
open Go.ChangeShapes Go.WideShapes Go.ChangeAt Go.RowKit Go.Joins Go.Deep
/-- Handles' cells. -/
def h2 (l : List (Int × Int)) : List Value := l.flatMap fun p => [.int .u64 p.1, .int .u64 p.2]
theorem h2_len : ∀ l : List (Int × Int), (h2 l).length = l.length * 2
  | [] => rfl
  | x :: l => by
    have := h2_len l
    simp only [h2, List.flatMap_cons, List.length_append, List.length_cons, List.length_nil] at this ⊢
    omega
theorem h2_at : ∀ (l : List (Int × Int)) (i : Nat) (p : Int × Int), l[i]? = some p → (h2 l)[i * 2]? = some (.int .u64 p.1) ∧ (h2 l)[i * 2 + 1]? = some (.int .u64 p.2)
  | [], i, p, h => by simp at h
  | x :: l, 0, p, h => by
    simp only [List.getElem?_cons_zero, Option.some.injEq] at h
    subst h
    exact ⟨rfl, rfl⟩
  | x :: l, i + 1, p, h => by
    rw [List.getElem?_cons_succ] at h
    have := h2_at l i p h
    unfold h2 at this ⊢
    rw [List.flatMap_cons, show (i + 1) * 2 = i * 2 + 2 by omega, show i * 2 + 2 + 1 = i * 2 + 1 + 2 by omega]
    exact this
/-- An act's parts. -/
structure Ac where
  kd : Int
  vt : Value
  tk : List (Int × Int)
  vm : Value
  mo : List Int
def AcAt (w : World) (b o : Nat) (x : Ac) : Prop :=
  w.cell? ⟨b, o, none⟩ = some (.int .u8 x.kd) ∧ w.cell? ⟨b, o + 1, none⟩ = some x.vt ∧ w.cell? ⟨b, o + 2, none⟩ = some x.vm
/-- What an act's slices hold. -/
def Ac.Ok (w : World) (x : Ac) : Prop := (0 ≤ x.kd ∧ x.kd ≤ 255) ∧ Rw w x.vt x.tk.length (h2 x.tk) ∧ Rw w x.vm x.mo.length (u8 x.mo)
/-- The slice that begins at A holds these acts. -/
def Acts (w : World) (A : Option Addr) (l : List Ac) : Prop :=
  l = [] ∨ ∃ b o, A = some ⟨b, o, none⟩ ∧ b < w.heap.size ∧ ∀ i x, l[i]? = some x → AcAt w b (o + i * 3) x ∧ x.Ok w
theorem Acts.below {w w' : World} {A : Option Addr} {l : List Ac} (h : Acts w A l) (hg : Below w.heap.size w w') : Acts w' A l := by
  rcases h with h | ⟨b, o, hA, hb, hc⟩
  · exact .inl h
  · refine .inr ⟨b, o, hA, Nat.lt_of_lt_of_le hb hg.size, fun i x hx => ?_⟩
    obtain ⟨⟨a0, a1, a2⟩, k, r1, r2⟩ := hc i x hx
    exact ⟨⟨(hg.cell (p := ⟨b, _, none⟩) hb).trans a0, (hg.cell (p := ⟨b, _, none⟩) hb).trans a1, (hg.cell (p := ⟨b, _, none⟩) hb).trans a2⟩, k, r1.below hg, r2.below hg⟩
theorem Acts.at {w : World} {A : Option Addr} {l : List Ac} (h : Acts w A l) {i : Nat} {x : Ac} (hi : l[i]? = some x) : ∃ b o, A = some ⟨b, o, none⟩ ∧ AcAt w b (o + i * 3) x ∧ x.Ok w := by
  rcases h with h | ⟨b, o, hA, _, hc⟩
  · subst h; simp at hi
  · exact ⟨b, o, hA, (hc i x hi).1, (hc i x hi).2⟩
theorem acells : Try.prog.cellsOf 30 = 3 := by kernel_rfl
theorem hcells : Try.prog.cellsOf 35 = 2 := by kernel_rfl
theorem ucells : Try.prog.cellsOf 27 = 1 := by kernel_rfl
theorem cells8 : Try.prog.cellsOf 5 = 1 := by kernel_rfl
theorem cellsH : Try.prog.cellsOf 28 = 1 := by kernel_rfl
theorem cellsU : Try.prog.cellsOf 22 = 1 := by kernel_rfl
section
variable {H : Type} {enc : TypeId × Value → H} {W : World} {base : Nat} {sp : Nat → Bool} {held : Bool}
/-- A slice of numbers, read. -/
theorem read_u8 {cs : List Value} {n : Nat} {x : DataW H × List MemPlace} (h : DataW.trod enc Try.prog W base sp held n 22 cs = some x) :
    ∃ (v : Value) (l : List Int), cs = [v] ∧ Rw W v l.length (u8 l) ∧ (l = [] ∨ ∃ es ss, x.1 = .slice es ss ∧ es.length = l.length) := by
  rcases open_slice Try.underlying22 h with ⟨hcs, _⟩ | ⟨a', len, cap, m, n, D, Pl, hcs, _, hl, hm, hmm, hx, hi⟩
  · exact ⟨_, [], hcs, .inl ⟨rfl, rfl, rfl⟩, .inl rfl⟩
  · have hlm : len ≤ m := by rw [hmm]; split <;> omega
    have hel : ∀ i, ∃ x : Int, i < len → W.cell? (a'.add (i * 1)) = some (.int .u64 x) := fun i => by
      by_cases hlt : i < len
      · obtain ⟨cs', hc, ht⟩ := hi i (Nat.lt_of_lt_of_le hlt hlm)
        rw [ucells] at hc
        obtain ⟨h1, _, hat⟩ := World.cells?_some hc
        obtain ⟨k, e, _, _⟩ := DataW.trod_int Try.underlying27 ht
        subst e
        exact ⟨k, fun _ => by simpa [Addr.add] using hat 0 (by omega)⟩
      · exact ⟨0, fun h => absurd h hlt⟩
    obtain ⟨f, hf'⟩ := Classical.axiomOfChoice hel
    refine ⟨_, (List.range len).map f, hcs, .inr ⟨a', cap, by simp, fun j u hu => ?_⟩, .inr ⟨_, _, by rw [Prod.mk.injEq] at hx; exact hx.1, by simp⟩⟩
    simp only [u8, List.map_map, List.getElem?_map, Option.map_eq_some_iff] at hu
    obtain ⟨i', hi', rfl⟩ := hu
    obtain ⟨hlt, rfl⟩ := List.getElem?_eq_some_iff.1 hi'
    simp only [List.length_range] at hlt
    simp only [List.getElem_range]
    have := hf' j hlt
    simpa using this
/-- A slice of handles, read. -/
theorem read_h2 {cs : List Value} {n : Nat} {x : DataW H × List MemPlace} (h : DataW.trod enc Try.prog W base sp held n 28 cs = some x) :
    ∃ (v : Value) (l : List (Int × Int)), cs = [v] ∧ Rw W v l.length (h2 l) := by
  rcases open_slice Try.underlying28 h with ⟨hcs, _⟩ | ⟨a', len, cap, m, n, D, Pl, hcs, _, hl, hm, hmm, hx, hi⟩
  · exact ⟨_, [], hcs, .inl ⟨rfl, rfl, rfl⟩⟩
  · have hlm : len ≤ m := by rw [hmm]; split <;> omega
    have hel : ∀ i, ∃ x : Int × Int, i < len → W.cell? (a'.add (i * 2)) = some (.int .u64 x.1) ∧ W.cell? ((a'.add (i * 2)).add 1) = some (.int .u64 x.2) := fun i => by
      by_cases hlt : i < len
      · obtain ⟨cs', hc, ht⟩ := hi i (Nat.lt_of_lt_of_le hlt hlm)
        obtain ⟨xs, n', _, hx, hlen, hxl, hf⟩ := DataW.trod_struct Try.underlying35 ht
        rw [hcells] at hlen hc
        obtain ⟨_, _, hat⟩ := World.cells?_some hc
        match cs', hlen with
        | [c0, c1], _ =>
          have hxl' : xs.length = 2 := hxl
          match xs, hxl' with
          | [y0, y1], _ =>
            have f0 : DataW.trod enc Try.prog W base sp held n' 27 [c0] = some y0 := by simpa [ucells] using hf 0 _ rfl
            have f1 : DataW.trod enc Try.prog W base sp held n' 27 [c1] = some y1 := by simpa [ucells] using hf 1 _ rfl
            obtain ⟨a0, e0, _, _⟩ := DataW.trod_int Try.underlying27 f0
            obtain ⟨a1, e1, _, _⟩ := DataW.trod_int Try.underlying27 f1
            simp at e0 e1
            subst e0 e1
            exact ⟨(a0, a1), fun _ => ⟨by simpa [Addr.add] using hat 0 (by omega), by simpa using hat 1 (by omega)⟩⟩
      · exact ⟨(0, 0), fun h => absurd h hlt⟩
    obtain ⟨f, hf'⟩ := Classical.axiomOfChoice hel
    refine ⟨_, (List.range len).map f, hcs, .inr ⟨a', cap, by simp, fun j u hu => ?_⟩⟩
    have hj : j < ((List.range len).map f).length * 2 := by rw [← h2_len]; exact (List.getElem?_eq_some_iff.1 hu).1
    simp only [List.length_map, List.length_range] at hj
    obtain ⟨p0, p1⟩ := h2_at ((List.range len).map f) (j / 2) (f (j / 2)) (by rw [List.getElem?_map, List.getElem?_range (by omega)]; rfl)
    obtain ⟨q0, q1⟩ := hf' (j / 2) (by omega)
    have hj2 : j % 2 = 0 ∨ j % 2 = 1 := by omega
    rcases hj2 with e | e
    · have e1 : j / 2 * 2 = j := by omega
      rw [e1] at p0 q0
      rw [hu] at p0
      rw [Option.some.inj p0]
      exact q0
    · have e1 : j / 2 * 2 + 1 = j := by omega
      rw [Addr.add_add] at q1
      rw [e1] at p1 q1
      rw [hu] at p1
      rw [Option.some.inj p1]
      exact q1
theorem elem3 {cs : List Value} {n : Nat} {x : DataW H × List MemPlace} (h : DataW.trod enc Try.prog W base sp held n 30 cs = some x) :
    ∃ a : Ac, cs = [.int .u8 a.kd, a.vt, a.vm] ∧ a.Ok W := by
  obtain ⟨xs, n', _, hx, hlen, hxl, hf⟩ := DataW.trod_struct Try.underlying30 h
  rw [acells] at hlen
  match cs, hlen with
  | [c0, c1, c2], _ =>
    have hxl' : xs.length = 3 := hxl
    match xs, hxl' with
    | [y0, y1, y2], _ =>
      have f0 : DataW.trod enc Try.prog W base sp held n' 5 [c0] = some y0 := by simpa [cells8] using hf 0 _ rfl
      have f1 : DataW.trod enc Try.prog W base sp held n' 28 [c1] = some y1 := by simpa [cellsH] using hf 1 _ rfl
      have f2 : DataW.trod enc Try.prog W base sp held n' 22 [c2] = some y2 := by simpa [cellsU] using hf 2 _ rfl
      obtain ⟨a0, e0, _, w0⟩ := DataW.trod_int Try.underlying5 f0
      obtain ⟨vt, tk, e1, r1⟩ := read_h2 f1
      obtain ⟨vm, mo, e2, r2, _⟩ := read_u8 f2
      simp at e0 e1 e2
      subst e0 e1 e2
      exact ⟨⟨a0, _, tk, _, mo⟩, rfl, bounds_u8 w0, r1, r2⟩
set_option maxRecDepth 20000 in
/-- A slice of acts, opened: the list that it holds. -/
theorem open_acts {v : Value} {d : DataW H} {p : List MemPlace} {r : Reach} {b0 : Nat} (hv : Value.okWide Try.prog W r b0 23 v) (h : DataW.Trod enc Try.prog W 0 (fun _ => true) true 23 v d p) :
    ∃ (A : Option Addr) (l : List Ac) (c : Nat), v = .slice A l.length c ∧ Acts W A l ∧ (l = [] ∨ ∃ es ss, d = .slice es ss ∧ es.length = l.length) := by
  obtain ⟨a, len, cap, rfl⟩ := okWide_slice Try.underlying23 hv
  obtain ⟨fuel, hf⟩ := h
  rcases open_slice Try.underlying23 hf with ⟨hcs, _⟩ | ⟨a', len', cap', m, n, D, Pl, hcs, _, hl, hm, hmm, hx, hi⟩
  · simp [Value.cells] at hcs
    obtain ⟨rfl, rfl, rfl⟩ := hcs
    exact ⟨none, [], 0, rfl, .inl rfl, .inl rfl⟩
  · simp [Value.cells] at hcs
    obtain ⟨rfl, rfl, rfl⟩ := hcs
    simp only [if_true] at hmm
    subst hmm
    have hel : ∀ i, ∃ x : Ac, i < len → (x.Ok W ∧ W.cell? (a'.add (i * 3)) = some (.int .u8 x.kd) ∧ W.cell? ((a'.add (i * 3)).add 1) = some x.vt ∧ W.cell? ((a'.add (i * 3)).add 2) = some x.vm) := fun i => by
      by_cases hlt : i < len
      · obtain ⟨cs', hc, ht⟩ := hi i (by omega)
        rw [acells] at hc
        obtain ⟨_, _, hat⟩ := World.cells?_some hc
        obtain ⟨x, rfl, hw⟩ := elem3 ht
        refine ⟨x, fun _ => ⟨hw, ?_, ?_, ?_⟩⟩
        · simpa [Addr.add] using hat 0 (by omega)
        · simpa using hat 1 (by omega)
        · simpa using hat 2 (by omega)
      · exact ⟨⟨0, .slice none 0 0, [], .slice none 0 0, []⟩, fun h => absurd h hlt⟩
    obtain ⟨f, hf'⟩ := Classical.axiomOfChoice hel
    refine ⟨some a', (List.range len).map f, m, by simp, ?_, .inr ⟨_, _, by rw [Prod.mk.injEq] at hx; exact hx.1, by simp⟩⟩
    by_cases h0 : len = 0
    · subst h0; exact .inl rfl
    · right
      obtain ⟨b, o, spot⟩ := a'
      obtain rfl : spot = none := by simpa [Addr.add] using World.cell?_spot (hf' 0 (by omega)).2.1
      refine ⟨b, o, rfl, World.block_lt_of_cell? W ⟨b, o, none⟩ (by simpa [Addr.add] using (hf' 0 (by omega)).2.1), fun i x hx => ?_⟩
      have hi' : i < len := by
        rcases Nat.lt_or_ge i len with h | h
        · exact h
        · rw [List.getElem?_eq_none (by simpa using h)] at hx; cases hx
      simp [hi'] at hx
      subst hx
      obtain ⟨h1, h2, h3, h4⟩ := hf' i hi'
      rw [add_plain] at h2 h3 h4
      rw [add_plain] at h3 h4
      exact ⟨⟨h2, h3, h4⟩, h1⟩
end
end Go.Proofs.Ytdhgblkmlkkpeaa

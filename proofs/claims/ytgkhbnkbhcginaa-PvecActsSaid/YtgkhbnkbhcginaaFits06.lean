/- Layer 6's law: a slice of acts as an argument, opened. Layer 6's law: fits. -/
import Derived.Test.YtgkhbnkbhcginaaProg
import Derived.Test.YtgkhbnkbhcginaaLst
import Derived.OpenShut
import Derived.ShutString
import Derived.Lib.SmallJoins
import Derived.Lib.Hide
import Derived.SizedLaws
import Derived.Deep.LoopGhost
namespace Go.Proofs.Ytgkhbnkbhcginaa
open Go.ChangeShapes Go.WideShapes Go.ChangeAt Go.RowKit Go.Joins Go.Deep

/-- An act's parts. -/
structure Ac where
  kd : Int
  i : Int
  n : Int
  x : V3
def Ac.Fits (a : Ac) : Prop := (0 ≤ a.kd ∧ a.kd ≤ 255) ∧ (0 ≤ a.x.1 ∧ a.x.1 ≤ 255) ∧ a.x.2.2.size ≤ 9223372036854775807
/-- The six cells at an address. -/
def AcAt (w : World) (b o : Nat) (a : Ac) : Prop :=
  w.cell? ⟨b, o, none⟩ = some (.int .u8 a.kd) ∧ w.cell? ⟨b, o + 1, none⟩ = some (.int .i64 a.i) ∧ w.cell? ⟨b, o + 2, none⟩ = some (.int .i64 a.n) ∧ w.cell? ⟨b, o + 3, none⟩ = some (.int .u8 a.x.1) ∧ w.cell? ⟨b, o + 4, none⟩ = some (.int .i64 a.x.2.1) ∧ w.cell? ⟨b, o + 5, none⟩ = some (.string a.x.2.2)
/-- The slice that begins at A holds these acts. -/
def Acts (w : World) (A : Option Addr) (l : List Ac) : Prop :=
  l = [] ∨ ∃ b o, A = some ⟨b, o, none⟩ ∧ b < w.heap.size ∧ ∀ i x, l[i]? = some x → AcAt w b (o + i * 6) x
theorem AcAt.below {w w' : World} {b o : Nat} {x : Ac} (h : AcAt w b o x) (hg : Below w.heap.size w w') (hb : b < w.heap.size) : AcAt w' b o x := by
  obtain ⟨h0, h1, h2, h3, h4, h5⟩ := h
  exact ⟨(hg.cell (p := ⟨b, o, none⟩) hb).trans h0, (hg.cell (p := ⟨b, o + 1, none⟩) hb).trans h1, (hg.cell (p := ⟨b, o + 2, none⟩) hb).trans h2, (hg.cell (p := ⟨b, o + 3, none⟩) hb).trans h3, (hg.cell (p := ⟨b, o + 4, none⟩) hb).trans h4, (hg.cell (p := ⟨b, o + 5, none⟩) hb).trans h5⟩
theorem Acts.below {w w' : World} {A : Option Addr} {l : List Ac} (h : Acts w A l) (hg : Below w.heap.size w w') : Acts w' A l := by
  rcases h with h | ⟨b, o, hA, hb, hc⟩
  · exact .inl h
  · exact .inr ⟨b, o, hA, Nat.lt_of_lt_of_le hb hg.size, fun i x hx => (hc i x hx).below hg hb⟩
theorem Acts.at {w : World} {A : Option Addr} {l : List Ac} (h : Acts w A l) {i : Nat} {x : Ac} (hi : l[i]? = some x) : ∃ b o, A = some ⟨b, o, none⟩ ∧ AcAt w b (o + i * 6) x := by
  rcases h with h | ⟨b, o, hA, _, hc⟩
  · subst h; simp at hi
  · exact ⟨b, o, hA, hc i x hi⟩

theorem acells : Try.prog.cellsOf 40 = 6 := by kernel_rfl
theorem cells8 : Try.prog.cellsOf 5 = 1 := by kernel_rfl
theorem cellsI : Try.prog.cellsOf 3 = 1 := by kernel_rfl

section
variable {H : Type} {enc : TypeId × Value → H} {W : World} {base : Nat} {sp : Nat → Bool} {held : Bool}
set_option maxRecDepth 20000 in
theorem elem6 {cs : List Value} {n : Nat} {x : DataW H × List MemPlace} (h : DataW.trod enc Try.prog W base sp held n 40 cs = some x) :
    ∃ a : Ac, cs = [.int .u8 a.kd, .int .i64 a.i, .int .i64 a.n, .int .u8 a.x.1, .int .i64 a.x.2.1, .string a.x.2.2] ∧ a.Fits := by
  obtain ⟨xs, n', _, hx, hlen, hxl, hf⟩ := DataW.trod_struct Try.underlying40 h
  rw [acells] at hlen
  match cs, hlen with
  | [c0, c1, c2, c3, c4, c5], _ =>
    have hxl' : xs.length = 4 := hxl
    match xs, hxl' with
    | [y0, y1, y2, y3], _ =>
      have f0 : DataW.trod enc Try.prog W base sp held n' 5 [c0] = some y0 := by simpa [cells8] using hf 0 _ rfl
      have f1 : DataW.trod enc Try.prog W base sp held n' 3 [c1] = some y1 := by simpa [cellsI] using hf 1 _ rfl
      have f2 : DataW.trod enc Try.prog W base sp held n' 3 [c2] = some y2 := by simpa [cellsI] using hf 2 _ rfl
      have f3 : DataW.trod enc Try.prog W base sp held n' 38 [c3, c4, c5] = some y3 := by simpa [vcells] using hf 3 _ rfl
      obtain ⟨a0, e0, _, w0⟩ := DataW.trod_int Try.underlying5 f0
      obtain ⟨a1, e1, _, _⟩ := DataW.trod_int Try.underlying3 f1
      obtain ⟨a2, e2, _, _⟩ := DataW.trod_int Try.underlying3 f2
      obtain ⟨k, m, t, e3, w3, ws⟩ := elem3 f3
      simp at e0 e1 e2 e3
      obtain ⟨rfl, rfl, rfl⟩ := e3
      subst e0 e1 e2
      exact ⟨⟨a0, a1, a2, (k, m, t)⟩, rfl, bounds_u8 w0, bounds_u8 w3, by unfold maxLen at ws; simpa using ws⟩

set_option maxRecDepth 20000 in
/-- A slice of acts, opened: the list that it holds. -/
theorem open_acts {v : Value} {d : DataW H} {p : List MemPlace} {r : Reach} {b0 : Nat} (hv : Value.okWide Try.prog W r b0 22 v) (h : DataW.Trod enc Try.prog W 0 (fun _ => true) true 22 v d p) :
    ∃ (A : Option Addr) (l : List Ac) (c : Nat), v = .slice A l.length c ∧ Acts W A l ∧ (∀ x ∈ l, x.Fits) ∧ (l = [] ∨ ∃ es ss, d = .slice es ss ∧ es.length = l.length) := by
  obtain ⟨a, len, cap, rfl⟩ := okWide_slice Try.underlying22 hv
  obtain ⟨fuel, hf⟩ := h
  rcases open_slice Try.underlying22 hf with ⟨hcs, _⟩ | ⟨a', len', cap', m, n, D, Pl, hcs, _, hl, hm, hmm, hx, hi⟩
  · simp [Value.cells] at hcs
    obtain ⟨rfl, rfl, rfl⟩ := hcs
    exact ⟨none, [], 0, rfl, .inl rfl, by simp, .inl rfl⟩
  · simp [Value.cells] at hcs
    obtain ⟨rfl, rfl, rfl⟩ := hcs
    simp only [if_true] at hmm
    subst hmm
    have hel : ∀ i, ∃ x : Ac, i < len → (x.Fits ∧ W.cell? (a'.add (i * 6)) = some (.int .u8 x.kd) ∧ W.cell? ((a'.add (i * 6)).add 1) = some (.int .i64 x.i) ∧ W.cell? ((a'.add (i * 6)).add 2) = some (.int .i64 x.n) ∧ W.cell? ((a'.add (i * 6)).add 3) = some (.int .u8 x.x.1) ∧ W.cell? ((a'.add (i * 6)).add 4) = some (.int .i64 x.x.2.1) ∧ W.cell? ((a'.add (i * 6)).add 5) = some (.string x.x.2.2)) := fun i => by
      by_cases hlt : i < len
      · obtain ⟨cs', hc, ht⟩ := hi i (by omega)
        rw [acells] at hc
        obtain ⟨_, _, hat⟩ := World.cells?_some hc
        obtain ⟨x, rfl, hw⟩ := elem6 ht
        refine ⟨x, fun _ => ⟨hw, ?_, ?_, ?_, ?_, ?_, ?_⟩⟩
        · simpa [Addr.add] using hat 0 (by omega)
        · simpa using hat 1 (by omega)
        · simpa using hat 2 (by omega)
        · simpa using hat 3 (by omega)
        · simpa using hat 4 (by omega)
        · simpa using hat 5 (by omega)
      · exact ⟨⟨0, 0, 0, (0, 0, ⟨#[]⟩)⟩, fun h => absurd h hlt⟩
    obtain ⟨f, hf'⟩ := Classical.axiomOfChoice hel
    refine ⟨some a', (List.range len).map f, m, by simp, ?_, ?_, .inr ⟨_, _, by rw [Prod.mk.injEq] at hx; exact hx.1, by simp⟩⟩
    · by_cases h0 : len = 0
      · subst h0; exact .inl rfl
      · right
        obtain ⟨b, o, spot⟩ := a'
        obtain rfl : spot = none := by simpa [Addr.add] using World.cell?_spot (hf' 0 (by omega)).2.1
        refine ⟨b, o, rfl, World.block_lt_of_cell? W ⟨b, o, none⟩ (by simpa [Addr.add] using (hf' 0 (by omega)).2.1), fun i x hx => ?_⟩
        have hi' : i < len := by
          rcases Nat.lt_or_ge i len with h | h
          · exact h
          · rw [List.getElem?_eq_none (by simpa using h)] at hx; cases hx
        simp [hi'] at hx
        subst hx
        obtain ⟨_, h0, h1, h2, h3, h4, h5⟩ := hf' i hi'
        rw [add_plain] at h0 h1 h2 h3 h4 h5
        rw [add_plain] at h1 h2 h3 h4 h5
        exact ⟨h0, h1, h2, h3, h4, h5⟩
    · intro x hx
      obtain ⟨i, hi', rfl⟩ := List.mem_map.1 hx
      exact (hf' i (List.mem_range.1 hi')).1
end

end Go.Proofs.Ytgkhbnkbhcginaa

namespace Go.Proofs.Ytgkhbnkbhcginaa
open Go.RowKit

/-- How many values an act pushes. -/
def pushN (a : Ac) : Nat := if a.kd.tmod 7 = 0 then ((IntKind.u64.wrap a.n).tmod 300).toNat else 0
def sumN : List Ac → Nat
  | [] => 0
  | a :: l => pushN a + sumN l
def fitsB (l : List Ac) : Bool := decide (∀ a ∈ l, a.x.2.2.size ≤ 50) && (decide (l.length ≤ 60) && decide (sumN l ≤ 3000))
theorem pushN_lt (a : Ac) : pushN a < 300 := by
  unfold pushN
  split
  · have h0 : 0 ≤ IntKind.u64.wrap a.n := by rw [IntKind.wrap_u64]; omega
    rw [Int.tmod_eq_emod_of_nonneg h0]
    omega
  · decide
theorem sumN_snoc : ∀ (l : List Ac) (a : Ac), sumN (l ++ [a]) = sumN l + pushN a
  | [], a => by simp [sumN]
  | x :: l, a => by
    show pushN x + sumN (l ++ [a]) = _
    rw [sumN_snoc l a]
    show _ = pushN x + sumN l + _
    omega
theorem sumN_le : ∀ (l : List Ac), sumN l ≤ 300 * l.length
  | [] => Nat.le_refl _
  | a :: l => by
    have h1 := pushN_lt a
    have h2 := sumN_le l
    show pushN a + sumN l ≤ 300 * (l.length + 1)
    omega
set_option maxRecDepth 100000 in
set_option maxHeartbeats 1600000 in
theorem vfits (A : Option Addr) (l : List Ac) (c : Nat) (w : World) (h : Acts w A l) (hf : ∀ a ∈ l, a.Fits) (hl : l.length ≤ 140737488355328) :
    Calls Try.prog 9 #[.slice A l.length c] w fun e w' => e = .returned (.bool (fitsB l)) ∧ Below w.heap.size w w' := by
  have HA := Lib.hid h
  have HF := Lib.hid hf
  clear h hf
  go_enter Try.func9, Try.ntmps9
  go_wp2_with fail
  go_loopg [3, 5, 8] l.length (fun c' n3 _ i8 wq => ∃ j : Nat, j + c' = l.length ∧ i8 = .int .i64 (j : Int) ∧ n3 = .int .i64 (sumN (l.take j) : Int) ∧ (∀ a ∈ l.take j, a.x.2.2.size ≤ 50) ∧ Below w.heap.size w wq)
  case atStart => exact ⟨0, by omega, rfl, rfl, by simp, Below.refl _ _⟩
  case round =>
    obtain ⟨j, hj, rfl, rfl, hall, hb⟩ := hrel
    have HB := Lib.hid hb
    have HAL := Lib.hid hall
    clear hb hall
    by_cases h1 : j < l.length
    · obtain ⟨a, ha⟩ : ∃ a, l[j]? = some a := ⟨_, List.getElem?_eq_getElem h1⟩
      obtain ⟨g, o, rfl, c0, c1, c2, c3, c4, c5⟩ := (HA.out.below HB.out).at ha
      have y1 : (0 : Int) ≤ (j : Int) := by omega
      have y2 : (j : Int) < (l.length : Int) := by omega
      have htk : l.take (j + 1) = l.take j ++ [a] := by rw [List.take_add_one, ha]; rfl
      have HTK := Lib.hid htk
      have HAA := Lib.hid ha
      have hfa := HF.out a (List.mem_of_getElem? ha)
      have HFA := Lib.hid hfa
      clear htk ha hfa
      by_cases h5 : a.x.2.2.size ≤ 50
      · have h5' : ¬ (50 : Int) < (a.x.2.2.size : Int) := by omega
        have hnew : ∀ y ∈ l.take (j + 1), y.x.2.2.size ≤ 50 := fun y hy => by
          rw [HTK.out] at hy
          rcases List.mem_append.1 hy with hy | hy
          · exact HAL.out y hy
          · obtain rfl : y = a := by simpa using hy
            exact h5
        have HNEW := Lib.hid hnew
        have hbn : Below w.heap.size w (wr.alloc (.cells #[.int .u8 a.kd, .int .i64 a.i, .int .i64 a.n, .int .u8 a.x.1, .int .i64 a.x.2.1, .string a.x.2.2] 40)) := HB.out.alloc HB.out.size _
        have HBN := Lib.hid hbn
        have hs1 := sumN_le (l.take j)
        have hs2 : (l.take j).length ≤ l.length := by rw [List.length_take]; omega
        have hp0 := pushN_lt a
        have HS := Lib.hid (And.intro hs1 (And.intro hs2 hp0))
        clear hnew hbn hs1 hs2 hp0
        by_cases hk : a.kd.tmod 7 = 0
        · have hp : (IntKind.u64.wrap a.n).tmod 300 = (pushN a : Int) := by
            unfold pushN
            rw [if_pos hk]
            have h0 : 0 ≤ IntKind.u64.wrap a.n := by rw [IntKind.wrap_u64]; omega
            rw [Int.tmod_eq_emod_of_nonneg h0]
            omega
          go_wp2_with fail
          go_roundg (l.length - (j + 1))
          case measure => omega
          case rel =>
            refine ⟨j + 1, by omega, by go_num, ?_, HNEW.out, HBN.out⟩
            have h3 := HS.out
            rw [HTK.out, sumN_snoc, IntWalk.wrap64_in (pushN a : Int) (by omega), IntWalk.wrap64_in ((sumN (l.take j) : Int) + (pushN a : Int)) (by omega)]
            simp
        · have hp : pushN a = 0 := by unfold pushN; rw [if_neg hk]
          have HP := Lib.hid hp
          clear hp
          go_wp2_with fail
          go_roundg (l.length - (j + 1))
          case measure => omega
          case rel =>
            refine ⟨j + 1, by omega, by go_num, ?_, HNEW.out, HBN.out⟩
            rw [HTK.out, sumN_snoc, HP.out, Nat.add_zero]
      · have h5' : (50 : Int) < (a.x.2.2.size : Int) := by omega
        have hff : fitsB l = false := by
          unfold fitsB
          rw [decide_eq_false (fun h => h5 (h a (List.mem_of_getElem? HAA.out))), Bool.false_and]
        have HFF := Lib.hid hff
        clear hff
        go_wp2_with fail
        go_ret
        exact ⟨ret_bool HFF.out.symm, HB.out.alloc HB.out.size _⟩
    · obtain rfl : j = l.length := by omega
      have hall := HAL.out
      rw [List.take_length] at hall ⊢
      have hff : fitsB l = (decide (l.length ≤ 60) && decide (sumN l ≤ 3000)) := by unfold fitsB; rw [decide_eq_true hall, Bool.true_and]
      have HFF := Lib.hid hff
      clear hff hall
      by_cases h60 : l.length ≤ 60
      · have h60' : (l.length : Int) ≤ 60 := by omega
        go_wp2_with fail
        go_ret
        refine ⟨ret_bool ?_, HB.out⟩
        rw [HFF.out, decide_eq_true h60, Bool.true_and]
        by_cases h3 : sumN l ≤ 3000
        · rw [decide_eq_true h3]; exact decide_eq_true (by omega)
        · rw [decide_eq_false h3]; exact decide_eq_false (by omega)
      · have h60' : ¬ (l.length : Int) ≤ 60 := by omega
        go_wp2_with fail
        go_ret
        exact ⟨ret_bool (by rw [HFF.out, decide_eq_false h60, Bool.false_and]), HB.out⟩

end Go.Proofs.Ytgkhbnkbhcginaa

/- Several texts in one. -/
import Derived.Test.YtkkfhbcnfknmaaaGreatProg
import Derived.Test.YtkkfhbcnfknmaaaGreatMg01
import Derived.OpenShut
import Derived.ShutString
import Derived.Lib.SmallJoins
namespace Go.Proofs.YtkkfhbcnfknmaaaGreat
open Go.ChangeShapes Go.WideShapes Go.ChangeAt Go.RowKit Go.Joins Go.Deep
theorem bcells12 : Tryz.prog.cellsOf 113 = 4 := by kernel_rfl
theorem scells12 : Tryz.prog.cellsOf 115 = 9 := by kernel_rfl
theorem cellsB12 : Tryz.prog.cellsOf 4 = 1 := by kernel_rfl
theorem cellsI12 : Tryz.prog.cellsOf 3 = 1 := by kernel_rfl
section
variable {H : Type} {enc : TypeId × Value → H} {W : World} {base : Nat} {sp : Nat → Bool} {held : Bool}
set_option maxRecDepth 20000 in
theorem elemB {cs : List Value} {n : Nat} {x : DataW H × List MemPlace} (h : DataW.trod enc Tryz.prog W base sp held n 113 cs = some x) :
    ∃ (k : V3) (o : Bool), cs = [.int .u8 k.1, .int .i64 k.2.1, .string k.2.2, .bool o] ∧ k.2.2.size ≤ 9223372036854775807 := by
  obtain ⟨xs, n', _, hx, hlen, hxl, hf⟩ := DataW.trod_struct Tryz.underlying113 h
  rw [bcells12] at hlen
  match cs, hlen with
  | [c0, c1, c2, c3], _ =>
    have hxl' : xs.length = 2 := hxl
    match xs, hxl' with
    | [y0, y1], _ =>
      have f0 : DataW.trod enc Tryz.prog W base sp held n' 36 [c0, c1, c2] = some y0 := by simpa [vcells] using hf 0 _ rfl
      have f1 : DataW.trod enc Tryz.prog W base sp held n' 4 [c3] = some y1 := by simpa [cellsB12] using hf 1 _ rfl
      obtain ⟨k, m, t, e3, w3, ws⟩ := elem3 f0
      obtain ⟨o, e4, _⟩ := DataW.trod_bool Tryz.underlying4 f1
      simp at e3 e4
      obtain ⟨rfl, rfl, rfl⟩ := e3
      subst e4
      exact ⟨(k, m, t), o, rfl, by unfold maxLen at ws; simpa using ws⟩
theorem list9 {cs : List Value} (h : cs.length = 9) : ∃ c0 c1 c2 c3 c4 c5 c6 c7 c8, cs = [c0, c1, c2, c3, c4, c5, c6, c7, c8] := by
  match cs, h with
  | [c0, c1, c2, c3, c4, c5, c6, c7, c8], _ => exact ⟨_, _, _, _, _, _, _, _, _, rfl⟩
set_option maxRecDepth 20000 in
theorem open_stretch {v : Value} {d : DataW H} {p : List MemPlace} {r : Go.Reach} {b0 : Nat} (hv : Value.okWide Tryz.prog W r b0 115 v) (h : DataW.Trod enc Tryz.prog W 0 (fun _ => true) true 115 v d p) :
    ∃ (fa ta : V3) (fo tb : Bool) (N : Int), v = .agg #[.int .u8 fa.1, .int .i64 fa.2.1, .string fa.2.2, .bool fo, .int .u8 ta.1, .int .i64 ta.2.1, .string ta.2.2, .bool tb, .int .i64 N] ∧ fa.2.2.size ≤ 9223372036854775807 ∧ ta.2.2.size ≤ 9223372036854775807 := by
  obtain ⟨cs, rfl, hsz⟩ := okWide_struct Tryz.underlying115 hv
  obtain ⟨l⟩ := cs
  obtain ⟨fuel, hf⟩ := h
  obtain ⟨xs, n', _, hx, hlen, hxl, hf⟩ := DataW.trod_struct Tryz.underlying115 hf
  rw [scells12] at hlen
  obtain ⟨c0, c1, c2, c3, c4, c5, c6, c7, c8, rfl⟩ := list9 (cs := l) (by simpa [Value.cells] using hlen)
  have hxl' : xs.length = 3 := hxl
  match xs, hxl' with
  | [y0, y1, y2], _ =>
    have f0 : DataW.trod enc Tryz.prog W 0 (fun _ => true) true n' 113 [c0, c1, c2, c3] = some y0 := by simpa [bcells12, Value.cells] using hf 0 _ rfl
    have f1 : DataW.trod enc Tryz.prog W 0 (fun _ => true) true n' 113 [c4, c5, c6, c7] = some y1 := by simpa [bcells12, Value.cells] using hf 1 _ rfl
    have f2 : DataW.trod enc Tryz.prog W 0 (fun _ => true) true n' 3 [c8] = some y2 := by simpa [cellsI12, Value.cells] using hf 2 _ rfl
    obtain ⟨fa, fo, e0, w0⟩ := elemB f0
    obtain ⟨ta, tb, e1, w1⟩ := elemB f1
    obtain ⟨N, e2, _⟩ := DataW.trod_int Tryz.underlying3 f2
    simp at e0 e1 e2
    obtain ⟨rfl, rfl, rfl, rfl⟩ := e0
    obtain ⟨rfl, rfl, rfl, rfl⟩ := e1
    subst e2
    exact ⟨fa, ta, fo, tb, N, rfl, w0, w1⟩
end
end Go.Proofs.YtkkfhbcnfknmaaaGreat

/- A pair of numbers as an argument, opened. -/
import Derived.Test.YtjdpgehmkcdmfaaLst
namespace Go.Proofs.Ytjdpgehmkcdmfaa
open Go.ChangeShapes Go.WideShapes Go.ChangeAt Go.RowKit Go.Joins Go.Deep

theorem pcellsI : Try.prog.cellsOf 3 = 1 := by kernel_rfl
theorem pcells2 : Try.prog.cellsOf 63 = 2 := by kernel_rfl
theorem okWide_arr {P : Program} {w : World} {r : Reach} {base : Nat} {t e : TypeId} {n : Nat} {v : Value} (ht : P.underlying t = some (.array n e)) (h : Value.okWide P w r base t v) : ∃ cs, v = .agg cs ∧ cs.size = P.cellsOf t := by
  simp only [Value.okWide, ht] at h
  obtain ⟨cs, h1, h2, _⟩ := h
  exact ⟨cs, h1, h2⟩
section
variable {H : Type} {enc : TypeId × Value → H} {W : World} {base : Nat} {sp : Nat → Bool} {held : Bool}
set_option maxRecDepth 20000 in
theorem open_pair {v : Value} {d : DataW H} {p : List MemPlace} {r : Reach} {b0 : Nat} (hv : Value.okWide Try.prog W r b0 63 v) (h : DataW.Trod enc Try.prog W base sp held 63 v d p) : ∃ a b : Int, v = .agg #[.int .i64 a, .int .i64 b] := by
  obtain ⟨cs, rfl, hsz⟩ := okWide_arr Try.underlying63 hv
  rw [pcells2] at hsz
  obtain ⟨c0, c1, rfl⟩ : ∃ c0 c1, cs = #[c0, c1] := by
    obtain ⟨l⟩ := cs
    match l, hsz with
    | [c0, c1], _ => exact ⟨c0, c1, rfl⟩
  obtain ⟨fuel, hf⟩ := h
  obtain ⟨zs, n2, _, _, _, hzl, hz⟩ := DataW.trod_array Try.underlying63 hf
  match zs, hzl with
  | [z0, z1], _ =>
    have g0 : DataW.trod enc Try.prog W base sp held n2 3 [c0] = some z0 := by simpa [pcellsI, Value.cells] using hz 0 (by omega)
    have g1 : DataW.trod enc Try.prog W base sp held n2 3 [c1] = some z1 := by simpa [pcellsI, Value.cells] using hz 1 (by omega)
    obtain ⟨a0, e0, _, _⟩ := DataW.trod_int Try.underlying3 g0
    obtain ⟨a1, e1, _, _⟩ := DataW.trod_int Try.underlying3 g1
    simp at e0 e1
    subst e0 e1
    exact ⟨a0, a1, rfl⟩
end

end Go.Proofs.Ytjdpgehmkcdmfaa

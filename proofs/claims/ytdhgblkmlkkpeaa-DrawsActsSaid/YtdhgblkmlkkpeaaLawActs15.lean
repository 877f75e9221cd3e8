/- For every list of numbers and every list of acts: calls on draws, one behind the other: what is drawn, and how many are left (DrawsActs returns true; the arguments read as they did). No condition. -/
import Derived.Test.YtdhgblkmlkkpeaaRows
import Derived.Test.YtdhgblkmlkkpeaaActs15
import Derived.OpenShut
namespace Go.Proofs.Ytdhgblkmlkkpeaa.drawsActs
set_option linter.unusedSimpArgs false
set_option linter.unusedVariables false
open Go.ChangeShapes Go.WideShapes Go.ChangeAt Go.RowKit Go.Joins Go.Deep

theorem own : ownKnob Try.prog.godebug = none := by kernel_rfl
theorem laidOut : laidOutB Try.prog = true := by kernel_rfl

set_option maxRecDepth 100000 in
set_option maxHeartbeats 4000000 in
theorem walk_big (v0 : Value) (l : List Int) (A : Option Addr) (acts : List Ac) (c : Nat) (w : World) (hl : Rw w v0 l.length (u8 l)) (hbig : 200 < l.length ∨ 60 < acts.length) :
    Calls Try.prog 3 #[v0, .slice A acts.length c] w fun e w' => e = .returned (.bool true) ∧ Below w.heap.size w w' := by
  obtain ⟨A0, c0, rfl⟩ := hl.form
  clear hl
  by_cases h1 : 200 < l.length
  · have n1 : (200 : Int) < (l.length : Int) := by omega
    clear hbig
    go_enter Try.func3, Try.ntmps3
    go_wp2_with fail
    refine (lives15 _).mono ?_
    rintro e w1 ⟨rfl, g1⟩
    have G1 := Lib.hid g1
    clear g1
    go_wp2_with fail
    refine (lives15 _).mono ?_
    rintro e w2 ⟨rfl, g2⟩
    have G2 := Lib.hid g2
    clear g2
    go_wp2_with fail
    go_ret
    exact ⟨rfl, G1.out.trans (G2.out.mono G1.out.size)⟩
  · have n1 : ¬ (200 : Int) < (l.length : Int) := by omega
    have n2 : (60 : Int) < (acts.length : Int) := by omega
    clear hbig
    go_enter Try.func3, Try.ntmps3
    go_wp2_with fail
    refine (lives15 _).mono ?_
    rintro e w1 ⟨rfl, g1⟩
    have G1 := Lib.hid g1
    clear g1
    go_wp2_with fail
    refine (lives15 _).mono ?_
    rintro e w2 ⟨rfl, g2⟩
    have G2 := Lib.hid g2
    clear g2
    go_wp2_with fail
    go_ret
    exact ⟨rfl, G1.out.trans (G2.out.mono G1.out.size)⟩
theorem walk (v0 : Value) (l : List Int) (A : Option Addr) (acts : List Ac) (c : Nat) (w : World) (hl : Rw w v0 l.length (u8 l)) (ha : Acts w A acts) :
    Calls Try.prog 3 #[v0, .slice A acts.length c] w fun e w' => e = .returned (.bool true) ∧ Below w.heap.size w w' := by
  by_cases h : 200 < l.length ∨ 60 < acts.length
  · exact walk_big v0 l A acts c w hl h
  · exact walk15 v0 l A acts c w hl ha (by omega) (by omega)

set_option maxRecDepth 100000 in
theorem lifted (os : Go.Os) (started : os.Started) (H : Type) (enc : TypeId × Value → H) :
    ReturnsInHanded {} Try.checked os 3 .any (Rows.drawsActsSpec.pre6 enc Try.prog Try.f3 Rows.drawsActsRow.domain false) (Rows.drawsActsSpec.post enc Try.prog Try.f3 false true false false) := by
  refine returnsInHanded_of_change (C := Try.checked) own started (by kernel_rfl) Try.func3
    (ChangeSpec.witness6 (enc := enc) (C := Try.checked) false ⟨#[], #[.slice none 0 0, .slice none 0 0], []⟩ 8 (by kernel_rfl) (by kernel_rfl) (by kernel_rfl) (by kernel_rfl)) ?_
  intro W base args ds gs before hval0 hW _ _
  have hval : ∀ (j : Nat) t v, Try.f3.params[j]? = some t → args[j]? = some v → Value.okWide Try.prog W .any base t v := hval0
  have hW' := hW
  obtain ⟨p, q, hA0, hV, rfl, _, _⟩ := hW
  have hA : DataW.TrodAll enc Try.prog W 0 (fun _ => true) true Try.f3.params.toList args.toList ds p := hA0
  rw [Try.params3] at hA hval
  obtain ⟨v0, vs0, d0, ds0, p0, q0, hargs, rfl, rfl, h0, r0⟩ := trodAll_cons hA
  obtain ⟨v1, vs1, d1, ds1, p1, q1, rfl, rfl, rfl, h1, r1⟩ := trodAll_cons r0
  obtain ⟨rfl, rfl, rfl⟩ := trodAll_nil r1
  obtain rfl : args = #[v0, v1] := by cases args; simp_all
  obtain ⟨rfl, rfl⟩ := trodVars_none hV
  simp only [List.append_nil] at hW'
  obtain ⟨l, hl⟩ : ∃ l : List Int, Rw W v0 l.length (u8 l) := by
    obtain ⟨a, len, cap, rfl⟩ := okWide_slice Try.underlying22 (hval 0 22 v0 rfl rfl)
    obtain ⟨fuel, hf⟩ := h0
    obtain ⟨v, l, e, hr, _⟩ := read_u8 hf
    simp [Value.cells] at e
    subst e
    exact ⟨l, hr⟩
  obtain ⟨A, acts, c, rfl, ha, _⟩ := open_acts (hval 1 23 v1 rfl rfl) h1
  clear hA0 hval0
  refine (walk v0 l A acts c W hl ha).mono fun e W' ⟨he, hg⟩ => ?_
  subst he
  have hlt0 : ∀ x ∈ p0, x.block < W.heap.size := fun x hx => by simpa using hW'.lt x (by simp [hx])
  have hlt1 : ∀ x ∈ p1, x.block < W.heap.size := fun x hx => by simpa using hW'.lt x (by simp [hx])
  refine ⟨_, rfl, _, _, _, [], p0 ++ p1, [], by simpa using hW', ?_, ?_, ?_, hg.frame _, fun h => by cases h⟩
  · exact trodAll_cons_mk (shut_bool Try.underlying4 _) trodAll_mk0
  · have g1 := Below.trod laidOut (by kernel_rfl) (of_decide_eq_true (by kernel_rfl)) h0 hg hlt0
    have g2 := Below.trod laidOut (by kernel_rfl) (of_decide_eq_true (by kernel_rfl)) h1 hg hlt1
    have := trodAll_cons_mk g1 (trodAll_cons_mk g2 trodAll_mk0)
    rw [List.append_nil] at this
    exact this
  · rfl

theorem over : Rows.drawsActsRow.holds Try.pinned (OpenSpec.ofChange Rows.drawsActsSpec) :=
  OpenClaim.holds_of_wide 3 Try.f3 rfl rfl rfl rfl rfl rfl rfl ⟨rfl, rfl, rfl, rfl, rfl⟩ rfl rfl rfl rfl rfl (by kernel_rfl) Try.func3 (by kernel_rfl)
    (of_decide_eq_true (by kernel_rfl)) (by unfold Func.isWrapper; first | (rw [if_pos (by decide +kernel)]; kernel_rfl) | (rw [if_neg (by decide +kernel)]; exact ⟨rfl, rfl⟩))
    (fun os started H enc _ => lifted os started H enc)

theorem proved : Rows.DrawsActsSaid :=
  over
#print axioms proved

end Go.Proofs.Ytdhgblkmlkkpeaa.drawsActs

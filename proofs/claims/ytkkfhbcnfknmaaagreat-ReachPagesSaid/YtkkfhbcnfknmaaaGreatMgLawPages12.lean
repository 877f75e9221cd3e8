/- For every seed, every list of keys and every stretch: in the tree of the keys, the pairs between the stretch's two bounds, open or not, so many at most (ReachPages returns true; the arguments read as they did). No condition. -/
import Derived.Test.YtkkfhbcnfknmaaaGreatRows
import Derived.Test.YtkkfhbcnfknmaaaGreatMg29
import Derived.Test.YtkkfhbcnfknmaaaGreatMg30
import Derived.OpenShut
namespace Go.Proofs.YtkkfhbcnfknmaaaGreat.reachPages
set_option linter.unusedSimpArgs false
set_option linter.unusedVariables false
open Go.ChangeShapes Go.WideShapes Go.ChangeAt Go.RowKit Go.Joins Go.Deep

theorem own : ownKnob Tryz.prog.godebug = none := by kernel_rfl
theorem laidOut : laidOutB Tryz.prog = true := by kernel_rfl

set_option maxRecDepth 100000 in
set_option maxHeartbeats 4000000 in
theorem walk_big (seed : Nat) (A : Option Addr) (l : List Ky) (c : Nat) (fa ta : Ky) (fo tb : Bool) (N : Int) (w : World) (hbig : 200 < l.length) :
    Calls Tryz.prog 9 #[.int .u64 seed, .slice A l.length c, .agg (scs fa fo ta tb N)] w fun e w' => e = .returned (.bool true) ∧ Below w.heap.size w w' := by
  have n1 : (200 : Int) < (l.length : Int) := by omega
  clear hbig
  go_enter Tryz.func9, Tryz.ntmps9
  go_upto_region 1 with fail
  have G0 := Lib.hid ((Below.refl _ w).alloc (Nat.le_refl _) (.cells (scs fa fo ta tb N) 115))
  go_wp2_with fail
  refine (llives12 _).mono ?_
  rintro e w1 ⟨rfl, g1⟩
  have G1 := Lib.hid (G0.out.trans (g1.mono G0.out.size))
  clear g1
  go_wp2_with fail
  refine (llives12 _).mono ?_
  rintro e w2 ⟨rfl, g2⟩
  have G2 := Lib.hid (G1.out.trans (g2.mono G1.out.size))
  clear g2
  go_wp2_with fail
  go_ret
  exact ⟨rfl, G2.out⟩
theorem walk (seed : Nat) (A : Option Addr) (l : List Ky) (c : Nat) (fa ta : Ky) (fo tb : Bool) (N : Int) (w : World) (hL : Lst w A l) (hok : ∀ k ∈ l, 0 ≤ k.1 ∧ k.1 ≤ 255) (hfs : fa.2.2.size ≤ 9223372036854775807) (hts : ta.2.2.size ≤ 9223372036854775807) :
    Calls Tryz.prog 9 #[.int .u64 seed, .slice A l.length c, .agg (scs fa fo ta tb N)] w fun e w' => e = .returned (.bool true) ∧ Below w.heap.size w w' := by
  by_cases h : 200 < l.length
  · exact walk_big seed A l c fa ta fo tb N w h
  · exact lpages12 seed A l c fa ta fo tb N w hL hok (by omega) hfs hts

set_option maxRecDepth 100000 in
theorem lifted (os : Go.Os) (started : os.Started) (H : Type) (enc : TypeId × Value → H) :
    ReturnsInHanded {} Tryz.checked os 9 .any (Rows.reachPagesSpec.pre6 enc Tryz.prog Tryz.f9 Rows.reachPagesRow.domain false) (Rows.reachPagesSpec.post enc Tryz.prog Tryz.f9 false true false false) := by
  refine returnsInHanded_of_change (C := Tryz.checked) own started (by kernel_rfl) Tryz.func9
    (ChangeSpec.witness6 (enc := enc) (C := Tryz.checked) false ⟨#[], #[.int .u64 0, .slice none 0 0, .agg #[.int .u8 0, .int .i64 0, .string ByteArray.empty, .bool false, .int .u8 0, .int .i64 0, .string ByteArray.empty, .bool false, .int .i64 0]], []⟩ 8 (by kernel_rfl) (by kernel_rfl) (by kernel_rfl) (by kernel_rfl)) ?_
  intro W base args ds gs before hval0 hW _ _
  have hval : ∀ (j : Nat) t v, Tryz.f9.params[j]? = some t → args[j]? = some v → Value.okWide Tryz.prog W .any base t v := hval0
  have hW' := hW
  obtain ⟨p, q, hA0, hV, rfl, _, _⟩ := hW
  have hA : DataW.TrodAll enc Tryz.prog W 0 (fun _ => true) true Tryz.f9.params.toList args.toList ds p := hA0
  rw [Tryz.params9] at hA hval
  obtain ⟨v0, vs0, d0, ds0, p0, q0, hargs, rfl, rfl, h0, r0⟩ := trodAll_cons hA
  obtain ⟨v1, vs1, d1, ds1, p1, q1, rfl, rfl, rfl, h1, r1⟩ := trodAll_cons r0
  obtain ⟨v2, vs2, d2, ds2, p2, q2, rfl, rfl, rfl, h2, r2⟩ := trodAll_cons r1
  obtain ⟨rfl, rfl, rfl⟩ := trodAll_nil r2
  obtain rfl : args = #[v0, v1, v2] := by cases args; simp_all
  obtain ⟨rfl, rfl⟩ := trodVars_none hV
  simp only [List.append_nil] at hW'
  have hlt2 : ∀ x ∈ p2, x.block < W.heap.size := fun x hx => by simpa using hW'.lt x (by simp [hx])
  have hread2 : ∀ W', Below W.heap.size W W' → _ := fun W' hg => Below.trod (W' := W') laidOut (by kernel_rfl) (of_decide_eq_true (by kernel_rfl)) h2 hg hlt2
  obtain ⟨a0, rfl, rfl, rfl, w0⟩ := open_int Tryz.underlying28 (hval 0 28 v0 rfl rfl) h0
  obtain ⟨A, l, c, rfl, hl, hf, _, _⟩ := open_values (hval 1 50 v1 rfl rfl) h1
  have hlt1 : ∀ x ∈ p1, x.block < W.heap.size := fun x hx => by simpa using hW'.lt x (by simp [hx])
  obtain ⟨fa, ta, fo, tb, N, rfl, hfs, hts⟩ := open_stretch (hval 2 115 v2 rfl rfl) h2
  clear hA0 hval0
  have b0 := bounds_u64 w0
  obtain ⟨a0, rfl⟩ := Int.eq_ofNat_of_zero_le b0.1
  refine (walk a0 A l c fa ta fo tb N W hl hf hfs hts).mono fun e W' ⟨he, hg⟩ => ?_
  subst he
  refine ⟨_, rfl, _, _, _, [], p1 ++ p2, [], by simpa using hW', ?_, ?_, ?_, hg.frame _, fun h => by cases h⟩
  · exact trodAll_cons_mk (shut_bool Tryz.underlying4 _) trodAll_mk0
  · have g2 := Below.trod laidOut (by kernel_rfl) (of_decide_eq_true (by kernel_rfl)) h1 hg hlt1
    have g3 := hread2 W' hg
    have := trodAll_cons_mk (shut_int Tryz.underlying28 w0) (trodAll_cons_mk g2 (trodAll_cons_mk g3 trodAll_mk0))
    simp only [List.nil_append, List.append_nil] at this
    exact this
  · rfl

theorem over : Rows.reachPagesRow.holds Tryz.pinned (OpenSpec.ofChange Rows.reachPagesSpec) :=
  OpenClaim.holds_of_wide 9 Tryz.f9 rfl rfl rfl rfl rfl rfl rfl ⟨rfl, rfl, rfl, rfl, rfl⟩ rfl rfl rfl rfl rfl (by kernel_rfl) Tryz.func9 (by kernel_rfl)
    (of_decide_eq_true (by kernel_rfl)) (by unfold Func.isWrapper; first | (rw [if_pos (by decide +kernel)]; kernel_rfl) | (rw [if_neg (by decide +kernel)]; exact ⟨rfl, rfl⟩))
    (fun os started H enc _ => lifted os started H enc)

theorem proved : Rows.ReachPagesSaid :=
  over
#print axioms proved
end Go.Proofs.YtkkfhbcnfknmaaaGreat.reachPages

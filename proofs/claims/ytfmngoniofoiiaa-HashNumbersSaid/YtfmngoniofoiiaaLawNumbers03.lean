/- For every seed, number and value: Of returns the document's hash of a value that may be, twice; Mix returns the number mixed; no hasher returns 0 (HashNumbers returns true; the arguments read as they did). No condition. -/
import Derived.Test.YtfmngoniofoiiaaRows
import Derived.Test.YtfmngoniofoiiaaLaw03
import Derived.Test.YtfmngoniofoiiaaVals
import Derived.OpenShut
import Derived.ShutString
namespace Go.Proofs.Ytfmngoniofoiiaa.hashNumbers
open Go.ChangeShapes Go.WideShapes Go.ChangeAt Go.RowKit Go.Joins Go.Deep

theorem own : ownKnob Try.prog.godebug = none := by kernel_rfl
theorem laidOut : laidOutB Try.prog = true := by kernel_rfl

theorem walk_wrong (seed m : Nat) (k n : Int) (s : ByteArray) (w : World) (hr : rightB k n s = false) :
    Calls Try.prog 3 #[.int .u64 seed, .int .u64 m, vv k n s] w fun e w' => e = .returned (.bool true) ∧ Below w.heap.size w w' := by
  go_enter Try.func3, Try.ntmps3
  go_wp2_with fail
  refine (lives3 _).mono ?_
  rintro e w1 ⟨rfl, g1⟩
  obtain ⟨c0, c1, c2⟩ := box3 g1
  go_wp2_with fail
  refine (of3 _ _ _ _).mono ?_
  rintro e w2 ⟨rfl, g2⟩
  go_wp2_with fail
  refine (ref_right _ _ _ _).mono ?_
  rintro e w3 ⟨rfl, g3⟩
  rw [hr]
  go_wp2_with fail
  refine (lives3 _).mono ?_
  rintro e w4 ⟨rfl, g4⟩
  go_wp2_with fail
  go_ret
  exact ⟨rfl, below_trans (below_trans (below_box g1) (g2.trans g3).below) g4⟩

set_option maxHeartbeats 1600000 in
theorem walk_right (seed m : Nat) (hm : m < 18446744073709551616) (k n : Int) (s : ByteArray) (w : World) (hk : 0 ≤ k) (hk' : k ≤ 255) (hs : s.size ≤ 4096) (hr : rightB k n s = true) :
    Calls Try.prog 3 #[.int .u64 seed, .int .u64 m, vv k n s] w fun e w' => e = .returned (.bool true) ∧ Below w.heap.size w w' := by
  obtain ⟨x, hx⟩ : ∃ x, x = ofN seed k n s := ⟨_, rfl⟩
  obtain ⟨y, hy⟩ : ∃ y, y = mixN m := ⟨_, rfl⟩
  have HX := Lib.hid hx
  have HY := Lib.hid hy
  clear hx hy
  go_enter Try.func3, Try.ntmps3
  go_wp2_with fail
  refine (lives3 _).mono ?_
  rintro e w1 ⟨rfl, g1⟩
  have G1 := Lib.hid g1
  obtain ⟨c0, c1, c2⟩ := box3 g1
  clear g1
  go_wp2_with fail
  refine (of3 _ _ _ _).mono ?_
  rintro e w2 ⟨rfl, g2⟩
  go_wp2_with fail
  refine (ref_right _ _ _ _).mono ?_
  rintro e w3 ⟨rfl, g3⟩
  rw [hr]
  have G3 := Lib.hid (below_trans G1.out (g2.trans g3).below)
  clear G1 g2 g3 c0 c1 c2
  go_wp2_with fail
  refine (hnew seed _).mono ?_
  rintro e w4 ⟨rfl, h4, g4⟩
  have G4 := Lib.hid (below_trans G3.out g4.below)
  obtain ⟨c0, c1, c2⟩ := box3 G4.out
  have hlt : (w.alloc (.cells #[.int .u8 k, .int .i64 n, .string s] 25)).heap.size ≤ w3.heap.size := G3.out.size
  clear G3 g4
  obtain ⟨b, hb⟩ : ∃ b, b = w3.heap.size := ⟨_, rfl⟩
  rw [← hb] at h4 hlt ⊢
  clear hb
  go_wp2_with fail
  refine (of3 _ _ _ _).mono ?_
  rintro e w5 ⟨rfl, g5⟩
  go_wp2_with fail
  refine (ref_of seed k n s _ hk hk' (by omega)).mono ?_
  rintro e w6 ⟨rfl, g6⟩
  rw [← HX.out]
  have h6 := h4.below (below_trans g5.below g6)
  have G6 := Lib.hid (below_trans G4.out (below_trans g5.below g6))
  clear G4 g5 g6 c0 c1 c2 h4
  obtain ⟨c0, c1, c2⟩ := box3 G6.out
  go_wp2_with fail
  refine (hof b seed k n s _ h6 hk hk' (by omega)).mono ?_
  rintro e w7 ⟨rfl, h7, g7⟩
  rw [← HX.out]
  have G7 := Lib.hid (below_grown G6.out g7 hlt)
  clear G6 g7 c0 c1 c2 h6
  obtain ⟨c0, c1, c2⟩ := box3 G7.out
  go_wp2_with fail
  refine (hof b seed k n s _ h7 hk hk' (by omega)).mono ?_
  rintro e w8 ⟨rfl, h8, g8⟩
  rw [← HX.out]
  have G8 := Lib.hid (below_grown G7.out g8 hlt)
  clear G7 g8 c0 c1 c2 h7 h8
  obtain ⟨c0, c1, c2⟩ := box3 G8.out
  go_wp2_with fail
  refine (mix m hm _).mono ?_
  rintro e w' ⟨rfl, rfl⟩
  rw [← HY.out]
  go_wp2_with fail
  refine (ref_mix m hm _).mono ?_
  rintro e w' ⟨rfl, rfl⟩
  rw [← HY.out]
  go_wp2_with fail
  refine (nof k n s _).mono ?_
  rintro e w9 ⟨rfl, g9⟩
  have G9 := Lib.hid (below_trans G8.out g9.below)
  clear G8 g9 c0 c1 c2
  obtain ⟨c0, c1, c2⟩ := box3 G9.out
  go_wp2_with fail
  refine (nall _ _).mono ?_
  rintro e w' ⟨rfl, rfl⟩
  go_wp2_with fail
  go_ret
  exact ⟨rfl, below_trans (below_box G9.out) ((Below.refl _ _).alloc (Nat.le_refl _) _)⟩

theorem walk (seed m : Nat) (hm : m < 18446744073709551616) (k n : Int) (s : ByteArray) (w : World) (hk : 0 ≤ k) (hk' : k ≤ 255) :
    Calls Try.prog 3 #[.int .u64 seed, .int .u64 m, vv k n s] w fun e w' => e = .returned (.bool true) ∧ Below w.heap.size w w' := by
  cases hr : rightB k n s
  · exact walk_wrong seed m k n s w hr
  · exact walk_right seed m hm k n s w hk hk' (right_small hr) hr

set_option maxRecDepth 100000 in
theorem lifted (os : Os) (started : os.Started) (H : Type) (enc : TypeId × Value → H) :
    ReturnsInHanded {} Try.checked os 3 .any (Rows.hashNumbersSpec.pre6 enc Try.prog Try.f3 Rows.hashNumbersRow.domain false) (Rows.hashNumbersSpec.post enc Try.prog Try.f3 false true false false) := by
  refine returnsInHanded_of_change (C := Try.checked) own started (by kernel_rfl) Try.func3
    (ChangeSpec.witness6 (enc := enc) (C := Try.checked) false ⟨#[], #[.int .u64 0, .int .u64 0, .agg #[.int .u8 0, .int .i64 0, .string ByteArray.empty]], []⟩ 8 (by kernel_rfl) (by kernel_rfl) (by kernel_rfl) (by kernel_rfl)) ?_
  intro W base args ds gs before hval0 hW _ _
  have hval : ∀ (j : Nat) t v, Try.f3.params[j]? = some t → args[j]? = some v → Value.okWide Try.prog W .any base t v := hval0
  have hW' := hW
  obtain ⟨p, q, hA0, hV, rfl, _, _⟩ := hW
  have hA : DataW.TrodAll enc Try.prog W 0 (fun _ => true) true Try.f3.params.toList args.toList ds p := hA0
  rw [Try.params3] at hA hval
  obtain ⟨v0, vs0, d0, ds0, p0, q0, hargs, rfl, rfl, h0, r0⟩ := trodAll_cons hA
  obtain ⟨v1, vs1, d1, ds1, p1, q1, rfl, rfl, rfl, h1, r1⟩ := trodAll_cons r0
  obtain ⟨v2, vs2, d2, ds2, p2, q2, rfl, rfl, rfl, h2, r2⟩ := trodAll_cons r1
  obtain ⟨rfl, rfl, rfl⟩ := trodAll_nil r2
  obtain rfl : args = #[v0, v1, v2] := by cases args; simp_all
  obtain ⟨rfl, rfl⟩ := trodVars_none hV
  simp only [List.append_nil] at hW'
  have k2 := h2
  obtain ⟨a0, rfl, rfl, rfl, w0⟩ := open_int Try.underlying22 (hval 0 22 v0 rfl rfl) h0
  obtain ⟨a1, rfl, rfl, rfl, w1⟩ := open_int Try.underlying22 (hval 1 22 v1 rfl rfl) h1
  obtain ⟨c0, c1, c2, z0, z1, z2, m', rfl, _, _, hz0, hz1, hz2⟩ := open_agg3 Try.underlying25 (by kernel_rfl) vcells (hval 2 25 v2 rfl rfl) h2
  obtain ⟨k, e0, _, wk⟩ := DataW.trod_int Try.underlying23 hz0
  obtain ⟨n', e1, _, wn'⟩ := DataW.trod_int Try.underlying2 hz1
  obtain ⟨t, e2, _, wt⟩ := DataW.trod_string Try.underlying9 hz2
  simp at e0 e1 e2
  subst e0 e1 e2
  clear hA0 hval0
  have b0 := bounds_u64 w0
  have b1 := bounds_u64 w1
  have bk := bounds_u8 wk
  obtain ⟨a0, rfl⟩ := Int.eq_ofNat_of_zero_le b0.1
  obtain ⟨a1, rfl⟩ := Int.eq_ofNat_of_zero_le b1.1
  refine (walk a0 a1 (by omega) k n' t W bk.1 bk.2).mono fun e W' ⟨he, hg⟩ => ?_
  subst he
  have hlt : ∀ x ∈ p2, x.block < W.heap.size := fun x hx => by simpa using hW'.lt x (by simpa using hx)
  refine ⟨_, rfl, _, _, _, [], p2, [], by simpa using hW', ?_, ?_, ?_, hg.frame _, fun h => by cases h⟩
  · exact trodAll_cons_mk (shut_bool Try.underlying4 _) trodAll_mk0
  · have g2 := Below.trod laidOut (by kernel_rfl) (of_decide_eq_true (by kernel_rfl)) k2 hg hlt
    have := trodAll_cons_mk (shut_int Try.underlying22 w0) (trodAll_cons_mk (shut_int Try.underlying22 w1) (trodAll_cons_mk g2 trodAll_mk0))
    rw [List.append_nil] at this
    exact this
  · rfl

theorem over : Rows.hashNumbersRow.holds Try.pinned (OpenSpec.ofChange Rows.hashNumbersSpec) :=
  OpenClaim.holds_of_wide 3 Try.f3 rfl rfl rfl rfl rfl rfl rfl ⟨rfl, rfl, rfl, rfl, rfl⟩ rfl rfl rfl rfl rfl (by kernel_rfl) Try.func3 (by kernel_rfl)
    (of_decide_eq_true (by kernel_rfl)) (by unfold Func.isWrapper; first | (rw [if_pos (by decide +kernel)]; kernel_rfl) | (rw [if_neg (by decide +kernel)]; exact ⟨rfl, rfl⟩))
    (fun os started H enc _ => lifted os started H enc)

theorem proved : Rows.HashNumbersSaid :=
  over
#print axioms proved
end Go.Proofs.Ytfmngoniofoiiaa.hashNumbers

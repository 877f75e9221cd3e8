/- For every two bytes, as rights: what may be given, what one has of the other, and which may be (RightsGiven returns true). No condition. -/
import Derived.Test.YtgcnnmhjadfgkaaRows
import Derived.Test.YtgcnnmhjadfgkaaLaw16
import Derived.OpenShut
namespace Go.Proofs.Ytgcnnmhjadfgkaa.rightsGiven
set_option maxRecDepth 100000
set_option linter.unusedSimpArgs false
set_option linter.unusedVariables false
open Go.ChangeShapes Go.WideShapes Go.ChangeAt Go.RowKit
/-- Whether of the first j bits none is in t that is not in s. -/
def subB (s t : Nat) : Nat → Bool
  | 0 => true
  | j + 1 => subB s t j && (!t.testBit j || s.testBit j)
theorem subB_iff (s t : Nat) : ∀ j, subB s t j = true ↔ ∀ i, i < j → t.testBit i = true → s.testBit i = true
  | 0 => by simp [subB]
  | j + 1 => by
    unfold subB
    rw [Bool.and_eq_true, subB_iff s t j]
    constructor
    · rintro ⟨h1, h2⟩ i hi ht
      by_cases e : i = j
      · subst e; rw [ht] at h2; simpa using h2
      · exact h1 i (by omega) ht
    · intro h
      refine ⟨fun i hi => h i (by omega), ?_⟩
      cases ht : t.testBit j
      · rfl
      · rw [h j (by omega) ht]; rfl
theorem subB_all (s t : Nat) (ht : t < 256) : subB s t 8 = hasN s t := by
  rw [Bool.eq_iff_iff, subB_iff]
  unfold hasN
  rw [decide_eq_true_eq]
  constructor
  · intro h
    refine Nat.eq_of_testBit_eq fun i => ?_
    rw [Nat.testBit_and]
    by_cases hi : i < 8
    · cases e : t.testBit i
      · simp
      · rw [h i hi e]; rfl
    · have h8 : t < 2 ^ i := Nat.lt_of_lt_of_le ht (Nat.pow_le_pow_right (n := 2) (i := 8) (by decide) (by omega))
      rw [Nat.testBit_lt_two_pow h8]; simp
  · intro h i _ hti
    rw [← h, Nat.testBit_and, Bool.and_eq_true] at hti
    exact hti.1
theorem right_lt : ∀ h : Fin 256, hasN 31 h.1 = decide (h.1 < 32) := by decide +kernel
theorem bit0 (n j : Nat) : ((n : Int) / 2 ^ j).tmod 2 = if n.testBit j then 1 else 0 := by
  have e : (n : Int) / 2 ^ j = ((n / 2 ^ j : Nat) : Int) := by simp
  rw [e, Int.tmod_eq_emod_of_nonneg (Int.natCast_nonneg _), Nat.testBit_eq_decide_div_mod_eq]
  by_cases h : n / 2 ^ j % 2 = 1
  · simp only [h, decide_true, if_true]; omega
  · simp only [h, decide_false, Bool.false_eq_true, if_false]; omega

theorem own : ownKnob Try.prog.godebug = none := by kernel_rfl
theorem laidOut : laidOutB Try.prog = true := by kernel_rfl

set_option maxHeartbeats 4000000 in
theorem walk (h t : Nat) (hh : h < 256) (ht : t < 256) (w : World) :
    Calls Try.prog 3 #[.int .u8 h, .int .u8 t] w fun e w' => e = .returned (.bool true) ∧ Below w.heap.size w w' := by
  go_enter Try.func3, Try.ntmps3
  go_wp2_with fail
  refine (lives16 _).mono ?_
  rintro e w1 ⟨rfl, g1⟩
  have G1 := Lib.hid g1
  clear g1
  go_wp2_with fail
  refine (ratt h t _ hh ht).mono ?_
  rintro e w' ⟨rfl, rfl⟩
  go_wp2_with fail
  go_loopg [17, 7] 8 (fun c' s17 s7 wr => ∃ j : Nat, j + c' = 8 ∧ s17 = .int .i64 j ∧ s7 = .bool (subB h t j) ∧ wr = w1)
  case atStart => exact ⟨0, rfl, rfl, rfl, rfl⟩
  case round =>
    obtain ⟨j, hj, rfl, rfl, rfl⟩ := hrel
    by_cases h1 : j < 8
    · have HM := Lib.hid (show j + 1 + (gk - 1) = 8 by omega)
      have HG := Lib.hid (show 0 < gk by omega)
      have h10 : (j : Int) < 8 := by omega
      have h11 : (0 : Int) ≤ (j : Int) := by omega
      have HS := Lib.hid (show subB h t (j + 1) = (subB h t j && (!t.testBit j || h.testBit j)) from rfl)
      have b1 := bit0 t j
      have b2 := bit0 h j
      clear hj
      cases e0 : subB h t j
      · clear b1 b2
        go_wp2_with fail
        go_roundg (gk - 1)
        case measure => have := HG.out; omega
        case rel => exact ⟨_, HM.out, rfl, by rw [HS.out, e0]; rfl, rfl⟩
      · cases e1 : t.testBit j
        · rw [e1] at b1
          simp only [Bool.false_eq_true, if_false] at b1
          clear b2
          go_wp2_with fail
          go_roundg (gk - 1)
          case measure => have := HG.out; omega
          case rel => exact ⟨_, HM.out, rfl, by rw [HS.out, e0, e1]; rfl, rfl⟩
        · rw [e1] at b1
          simp only [if_true] at b1
          cases e2 : h.testBit j
          · rw [e2] at b2
            simp only [Bool.false_eq_true, if_false] at b2
            go_wp2_with fail
            go_roundg (gk - 1)
            case measure => have := HG.out; omega
            case rel => exact ⟨_, HM.out, rfl, by rw [HS.out, e0, e1, e2]; rfl, rfl⟩
          · rw [e2] at b2
            simp only [if_true] at b2
            go_wp2_with fail
            go_roundg (gk - 1)
            case measure => have := HG.out; omega
            case rel => exact ⟨_, HM.out, rfl, by rw [HS.out, e0, e1, e2]; rfl, rfl⟩
    · obtain rfl : j = 8 := by omega
      clear hj h1
      rw [subB_all h t ht]
      have hr : hasN 31 h = decide (h < 32) := right_lt ⟨h, hh⟩
      have hr2 : hasN 31 t = decide (t < 32) := right_lt ⟨t, ht⟩
      have hb : hasN h 8 = h.testBit 3 := hasN_bit h 3
      have b3 : (((h : Int) / 8).tmod 2 = 0 ∧ h.testBit 3 = false) ∨ (((h : Int) / 8).tmod 2 = 1 ∧ h.testBit 3 = true) := by
        have := bit0 h 3
        cases e : h.testBit 3
        · rw [e] at this; exact .inl ⟨by simpa using this, rfl⟩
        · rw [e] at this; exact .inr ⟨by simpa using this, rfl⟩
      obtain ⟨bh, hbh⟩ : ∃ bh, bh = hasN h t := ⟨_, rfl⟩
      have HA := Lib.hid (show attN h t = if hasN 31 h = true ∧ hasN 31 t = true then (if hasN h 8 = true ∧ hasN h t = true then (t, 0) else (0, 6)) else (0, 1) from rfl)
      have HH := Lib.hid (fun W => rhas h t W hh ht)
      have HR := Lib.hid (fun W => rright h W hh)
      rw [← hbh] at HA HH ⊢
      rw [hr] at HA HR
      rw [hr2, hb] at HA
      generalize attN h t = at' at HA ⊢
      clear hr hr2 hb hbh
      by_cases c1 : h < 32
      · have c1' : (h : Int) < 32 := by omega
        have c1'' : ¬ (31 : Int) < (h : Int) := by omega
        by_cases c2 : t < 32
        · have c2'' : ¬ (31 : Int) < (t : Int) := by omega
          rcases b3 with ⟨b3, b3'⟩ | ⟨b3, b3'⟩
          · have ea := HA.out
            simp only [c1, c2, b3', decide_true, and_self, if_true, Bool.false_eq_true, false_and, if_false] at ea
            rw [ea]
            cases bh <;>
            · go_wp2_with fail
              refine (HH.out _).mono ?_
              rintro e w' ⟨rfl, rfl⟩
              go_wp2_with fail
              refine (HR.out _).mono ?_
              rintro e w' ⟨rfl, rfl⟩
              rw [decide_eq_true c1]
              go_wp2_with fail
              go_ret
              exact ⟨rfl, G1.out⟩
          · have ea := HA.out
            simp only [c1, c2, b3', decide_true, and_self, if_true, true_and] at ea
            cases bh
            · simp only [Bool.false_eq_true, if_false] at ea
              rw [ea]
              go_wp2_with fail
              refine (HH.out _).mono ?_
              rintro e w' ⟨rfl, rfl⟩
              go_wp2_with fail
              refine (HR.out _).mono ?_
              rintro e w' ⟨rfl, rfl⟩
              rw [decide_eq_true c1]
              go_wp2_with fail
              go_ret
              exact ⟨rfl, G1.out⟩
            · simp only [if_true] at ea
              rw [ea]
              go_wp2_with fail
              refine (HH.out _).mono ?_
              rintro e w' ⟨rfl, rfl⟩
              go_wp2_with fail
              refine (HR.out _).mono ?_
              rintro e w' ⟨rfl, rfl⟩
              rw [decide_eq_true c1]
              go_wp2_with fail
              go_ret
              exact ⟨rfl, G1.out⟩
        · have c2'' : (31 : Int) < (t : Int) := by omega
          have ea := HA.out
          simp only [c2, decide_false, Bool.false_eq_true, and_false, if_false] at ea
          rw [ea]
          clear b3
          cases bh <;>
          · go_wp2_with fail
            refine (HH.out _).mono ?_
            rintro e w' ⟨rfl, rfl⟩
            go_wp2_with fail
            refine (HR.out _).mono ?_
            rintro e w' ⟨rfl, rfl⟩
            rw [decide_eq_true c1]
            go_wp2_with fail
            go_ret
            exact ⟨rfl, G1.out⟩
      · have c1' : ¬ (h : Int) < 32 := by omega
        have c1'' : (31 : Int) < (h : Int) := by omega
        have ea := HA.out
        simp only [c1, decide_false, Bool.false_eq_true, false_and, if_false] at ea
        rw [ea]
        clear b3
        cases bh <;>
        · go_wp2_with fail
          refine (HH.out _).mono ?_
          rintro e w' ⟨rfl, rfl⟩
          go_wp2_with fail
          refine (HR.out _).mono ?_
          rintro e w' ⟨rfl, rfl⟩
          rw [decide_eq_false c1]
          go_wp2_with fail
          go_ret
          exact ⟨rfl, G1.out⟩

set_option maxRecDepth 100000 in
theorem lifted (os : Go.Os) (started : os.Started) (H : Type) (enc : TypeId × Value → H) :
    ReturnsInHanded {} Try.checked os 3 .any (Rows.rightsGivenSpec.pre6 enc Try.prog Try.f3 Rows.rightsGivenRow.domain false) (Rows.rightsGivenSpec.post enc Try.prog Try.f3 false true false false) := by
  refine returnsInHanded_of_change (C := Try.checked) own started (by kernel_rfl) Try.func3
    (ChangeSpec.witness6 (enc := enc) (C := Try.checked) false ⟨#[], #[.int .u8 0, .int .u8 0], []⟩ 8 (by kernel_rfl) (by kernel_rfl) (by kernel_rfl) (by kernel_rfl)) ?_
  intro W base args ds gs before hval0 hW _ _
  have hval : ∀ (j : Nat) t v, Try.f3.params[j]? = some t → args[j]? = some v → Value.okWide Try.prog W .any base t v := hval0
  have hW' := hW
  obtain ⟨p, q, hA0, hV, rfl, _, _⟩ := hW
  have hA : DataW.TrodAll enc Try.prog W 0 (fun _ => true) true Try.f3.params.toList args.toList ds p := hA0
  rw [Try.params3] at hA hval
  obtain ⟨v0, vs0, d0, ds0, p0, q0, hargs, rfl, rfl, h0, r0⟩ := trodAll_cons hA
  obtain ⟨v1, vs1, d1, ds1, p1, q1, rfl, rfl, rfl, h1, r1⟩ := trodAll_cons r0
  obtain ⟨rfl, rfl, rfl⟩ := trodAll_nil r1
  obtain rfl : args = #[v0, v1] := by cases args; simp_all
  obtain ⟨rfl, rfl⟩ := trodVars_none hV
  simp only [List.append_nil] at hW'
  obtain ⟨a0, rfl, rfl, rfl, w0⟩ := open_int Try.underlying5 (hval 0 5 v0 rfl rfl) h0
  have b0 := bounds_u8 w0
  obtain ⟨a0, rfl⟩ := Int.eq_ofNat_of_zero_le b0.1
  obtain ⟨a1, rfl, rfl, rfl, w1⟩ := open_int Try.underlying5 (hval 1 5 v1 rfl rfl) h1
  have b1 := bounds_u8 w1
  obtain ⟨a1, rfl⟩ := Int.eq_ofNat_of_zero_le b1.1
  clear hA0 hval0
  refine (walk a0 a1 (by omega) (by omega) W).mono fun e W' ⟨he, hg⟩ => ?_
  subst he
  refine ⟨_, rfl, _, _, _, [], [], [], hW', ?_, ?_, ?_, hg.frame _, fun h => by cases h⟩
  · exact trodAll_cons_mk (shut_bool Try.underlying4 _) trodAll_mk0
  · exact (trodAll_cons_mk (shut_int Try.underlying5 w0) (trodAll_cons_mk (shut_int Try.underlying5 w1) trodAll_mk0))
  · rfl

theorem over : Rows.rightsGivenRow.holds Try.pinned (OpenSpec.ofChange Rows.rightsGivenSpec) :=
  OpenClaim.holds_of_wide 3 Try.f3 rfl rfl rfl rfl rfl rfl rfl ⟨rfl, rfl, rfl, rfl, rfl⟩ rfl rfl rfl rfl rfl (by kernel_rfl) Try.func3 (by kernel_rfl)
    (of_decide_eq_true (by kernel_rfl)) (by unfold Func.isWrapper; first | (rw [if_pos (by decide +kernel)]; kernel_rfl) | (rw [if_neg (by decide +kernel)]; exact ⟨rfl, rfl⟩))
    (fun os started H enc _ => lifted os started H enc)

theorem proved : Rows.RightsGivenSaid :=
  over
#print axioms proved
end Go.Proofs.Ytgcnnmhjadfgkaa.rightsGiven

/- Package rights: Has, Right, at, Attenuate: contracts, for all rights. -/
import Derived.Test.YtgcnnmhjadfgkaaProg
import Derived.Test.YtgcnnmhjadfgkaaWorld
import Derived.Laws.BitsAllLaws
import Derived.Laws.ShiftsVarLaws
import Derived.Lib.Hide
import Derived.LoopTactic
namespace Go.Proofs.Ytgcnnmhjadfgkaa
set_option maxRecDepth 100000
open Go.RowKit
/-- Whether all rights of t are in s. -/
def hasN (s t : Nat) : Bool := decide (s &&& t = t)
theorem has_run (s t : Nat) (hs : s < 256) (ht : t < 256) : (bits .and .u8 (s : Int) (t : Int) == (t : Int)) = hasN s t := by
  rw [u8_and_nat s t hs ht, Bool.eq_iff_iff]
  simp only [beq_iff_eq, hasN, decide_eq_true_eq]
  omega
section
variable (s t : Nat) (hs : s < 256) (ht : t < 256) (w : World)
theorem rhas (hs : s < 256) (ht : t < 256) : Calls Try.prog 8 #[.int .u8 s, .int .u8 t] w fun e w' => e = .returned (.bool (hasN s t)) ∧ w = w' := by
  go_enter Try.func8, Try.ntmps8
  go_wp2_with fail
  go_ret
  exact ⟨ret_bool (has_run s t hs ht), rfl⟩
theorem rright (hs : s < 256) : Calls Try.prog 9 #[.int .u8 s] w fun e w' => e = .returned (.bool (hasN 31 s)) ∧ w = w' := by
  go_enter Try.func9, Try.ntmps9
  go_wp2_with fail
  refine (rhas 31 s _ (by decide) hs).mono ?_
  rintro e w' ⟨rfl, rfl⟩
  go_wp2_with fail
  go_ret
  exact ⟨rfl, rfl⟩
/-- What is given. -/
def attN (s t : Nat) : Nat × Int := if hasN 31 s = true ∧ hasN 31 t = true then (if hasN s 8 = true ∧ hasN s t = true then (t, 0) else (0, 6)) else (0, 1)
theorem ratt (hs : s < 256) (ht : t < 256) : Calls Try.prog 7 #[.int .u8 s, .int .u8 t] w fun e w' => e = .returned (.tuple #[.int .u8 ((attN s t).1 : Nat), .int .i64 (attN s t).2]) ∧ w = w' := by
  go_enter Try.func7, Try.ntmps7
  go_wp2_with fail
  refine (rright s _ hs).mono ?_
  rintro e w' ⟨rfl, rfl⟩
  cases h1 : hasN 31 s
  · have ea := Lib.hid (show attN s t = (0, 1) by simp [attN, h1])
    go_wp2_with fail
    go_ret2
    exact ⟨by rw [ea.out]; rfl, rfl⟩
  · go_wp2_with fail
    refine (rright t _ ht).mono ?_
    rintro e w' ⟨rfl, rfl⟩
    cases h2 : hasN 31 t
    · have ea := Lib.hid (show attN s t = (0, 1) by simp [attN, h1, h2])
      go_wp2_with fail
      go_ret2
      exact ⟨by rw [ea.out]; rfl, rfl⟩
    · go_wp2_with fail
      refine (rhas s 8 _ hs (by decide)).mono ?_
      rintro e w' ⟨rfl, rfl⟩
      cases h3 : hasN s 8
      · have ea := Lib.hid (show attN s t = (0, 6) by simp [attN, h1, h2, h3])
        go_wp2_with fail
        go_ret2
        exact ⟨by rw [ea.out]; rfl, rfl⟩
      · go_wp2_with fail
        refine (rhas s t _ hs ht).mono ?_
        rintro e w' ⟨rfl, rfl⟩
        cases h4 : hasN s t
        · have ea := Lib.hid (show attN s t = (0, 6) by simp [attN, h1, h2, h3, h4])
          go_wp2_with fail
          go_ret2
          exact ⟨by rw [ea.out]; rfl, rfl⟩
        · have ea := Lib.hid (show attN s t = (t, 0) by simp [attN, h1, h2, h3, h4])
          go_wp2_with fail
          go_ret2
          exact ⟨by rw [ea.out]; rfl, rfl⟩
end
end Go.Proofs.Ytgcnnmhjadfgkaa

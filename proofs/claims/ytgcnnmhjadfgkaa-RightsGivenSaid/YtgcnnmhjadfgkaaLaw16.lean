/- Layer 16's law: the text of rights, bit by bit; its example. -/
import Derived.Test.YtgcnnmhjadfgkaaParse16
namespace Go.Proofs.Ytgcnnmhjadfgkaa
set_option maxRecDepth 100000
set_option linter.unusedSimpArgs false
set_option linter.unusedVariables false
open Go.RowKit
theorem lt1_next (n j : Nat) (hj : j < 5) : (rt n).take j ++ [lt1 n j] = (rt n).take (j + 1) := by
  have h5 : j = 0 ∨ j = 1 ∨ j = 2 ∨ j = 3 ∨ j = 4 := by omega
  rcases h5 with rfl | rfl | rfl | rfl | rfl <;> rfl
theorem str_add (l m : List UInt8) : (⟨l.toArray⟩ : ByteArray) ++ ⟨m.toArray⟩ = ⟨(l ++ m).toArray⟩ := by
  apply ByteArray.ext
  simp
theorem ltr_cut (j : Nat) (hj : j < 5) : (⟨#[114, 100, 116, 103, 118]⟩ : ByteArray).extract j (j + 1) = ⟨#[ltr j]⟩ := by
  have h5 : j = 0 ∨ j = 1 ∨ j = 2 ∨ j = 3 ∨ j = 4 := by omega
  rcases h5 with rfl | rfl | rfl | rfl | rfl <;> rfl
theorem bit_int (n j : Nat) : ((n / 2 ^ j : Nat) : Int) % 2 = 1 ↔ n.testBit j = true := by
  rw [Nat.testBit_eq_decide_div_mod_eq, decide_eq_true_eq]
  omega
set_option maxHeartbeats 4000000 in
theorem ltext (n : Nat) (hn : n < 256) (w : World) : Calls Try.prog 11 #[.int .u8 n] w fun e w' => e = .returned (.string ⟨(rt n).toArray⟩) ∧ w = w' := by
  go_enter Try.func11, Try.ntmps11
  go_wp2_with fail
  go_loopg [5, 3, 0] 5 (fun c' s5 s3 s0 wr => ∃ j : Nat, j + c' = 5 ∧ s5 = .int .i64 j ∧ s3 = .string ⟨((rt n).take j).toArray⟩ ∧ s0 = .int .u8 (n / 2 ^ j : Nat) ∧ wr = w)
  case atStart => exact ⟨0, rfl, rfl, rfl, by simp, rfl⟩
  case round =>
    obtain ⟨j, hj, rfl, rfl, rfl, rfl⟩ := hrel
    by_cases h1 : j < 5
    · obtain ⟨m, hm⟩ : ∃ m, m = j + 1 := ⟨_, rfl⟩
      have HM := Lib.hid (show m + (gk - 1) = 5 by omega)
      have HG := Lib.hid (show 0 < gk by omega)
      have HB := Lib.hid (bit_int n j)
      have HD := Lib.hid (show n / 2 ^ j / 2 = n / 2 ^ (j + 1) by rw [Nat.div_div_eq_div_mul, Nat.pow_succ])
      have HL := Lib.hid (lt1_next n j h1)
      have h5 : j = 0 ∨ j = 1 ∨ j = 2 ∨ j = 3 ∨ j = 4 := by omega
      obtain ⟨T, hT⟩ : ∃ T : ByteArray, T = ⟨((rt n).take j).toArray⟩ := ⟨_, rfl⟩
      obtain ⟨d, hd⟩ : ∃ d : Nat, d = n / 2 ^ j := ⟨_, rfl⟩
      have hd9 : d < 256 := by rw [hd]; exact Nat.lt_of_le_of_lt (Nat.div_le_self _ _) hn
      rw [← hT, ← hd]
      have HT := Lib.hid hT
      have HDD := Lib.hid hd
      have hsz : T.size = j := by rw [hT]; simp [ByteArray.size, rt]; omega
      have HE := Lib.hid (show T ++ ⟨#[lt1 n j]⟩ = ⟨((rt n).take m).toArray⟩ by rw [hT, hm, ← lt1_next n j h1, ← str_add])
      have HE1 := Lib.hid (show n.testBit j = true → T ++ (⟨#[114, 100, 116, 103, 118]⟩ : ByteArray).extract j (j + 1) = ⟨((rt n).take m).toArray⟩ from fun e => by rw [← HE.out, ltr_cut j h1]; unfold lt1; rw [e]; rfl)
      have HE0 := Lib.hid (show n.testBit j = false → T ++ ⟨#[45]⟩ = ⟨((rt n).take m).toArray⟩ from fun e => by rw [← HE.out]; unfold lt1; rw [e]; rfl)
      have HQ := Lib.hid (show (d : Int) / 2 = ((n / 2 ^ m : Nat) : Int) by have := HD.out; rw [hm, ← this, hd]; omega)
      clear hj hT hd
      cases hbit : n.testBit j
      · have e2 : ¬ (d : Int) % 2 = 1 := fun e => by rw [HDD.out, HB.out, hbit] at e; cases e
        rcases h5 with rfl | rfl | rfl | rfl | rfl <;>
        · go_wp2_with fail
          go_roundg (gk - 1)
          case measure => have := HG.out; omega
          case rel => exact ⟨m, HM.out, by rw [hm]; rfl, congrArg Value.string (HE0.out hbit), by rw [HQ.out], rfl⟩
      · have e2 : (d : Int) % 2 = 1 := by rw [HDD.out]; exact HB.out.2 hbit
        rcases h5 with rfl | rfl | rfl | rfl | rfl <;>
        · go_wp2_with fail
          go_roundg (gk - 1)
          case measure => have := HG.out; omega
          case rel => exact ⟨m, HM.out, by rw [hm]; rfl, congrArg Value.string (HE1.out hbit), by rw [HQ.out], rfl⟩
    · obtain rfl : j = 5 := by omega
      clear hj
      go_wp2_with fail
      go_ret
      exact ⟨rfl, rfl⟩
set_option maxHeartbeats 2000000 in
theorem lives16 (w : World) : Calls Try.prog 6 #[] w fun e w' => e = .returned (.bool true) ∧ Below w.heap.size w w' := by
  go_enter Try.func6, Try.ntmps6
  go_wp2_with fail
  refine (rtext 9 (by decide) w).mono ?_
  rintro e w1 ⟨rfl, h1⟩
  have H1 := Lib.hid h1
  clear h1
  simp only [show rt 9 = [114, 45, 45, 103, 45] by decide]
  go_wp2_with fail
  go_ret
  exact ⟨rfl, H1.out⟩
end Go.Proofs.Ytgcnnmhjadfgkaa

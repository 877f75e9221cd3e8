/- The chapter's example of layer 3 holds, and the law's own 'of'. -/
import Derived.Test.YtfmngoniofoiiaaHash03
namespace Go.Proofs.Ytfmngoniofoiiaa
open Go.RowKit

theorem of3 (k n : Int) (s : ByteArray) (w : World) : Calls Try.prog 8 #[vv k n s] w fun e w' => e = .returned (vv k n s) ∧ Gw w w' := by
  go_enter Try.func8, Try.ntmps8
  go_wp2
  exact bodyPost_ret (v := vv k n s) (by simp [results, Try.results8, go_sem]) rfl ⟨rfl, ((Gw.refl _).alloc _ _).alloc _ _⟩

theorem mix0 : mixN 0 = 0 := by decide
theorem of1 : ofN 1 0 0 ⟨#[]⟩ ≠ 0 := of_decide_eq_true (by kernel_rfl)

set_option maxHeartbeats 1000000 in
theorem lives3 (w : World) : Calls Try.prog 6 #[] w fun e w' => e = .returned (.bool true) ∧ Below w.heap.size w w' := by
  obtain ⟨x, hx⟩ : ∃ x, x = ofN 1 0 0 ⟨#[]⟩ := ⟨_, rfl⟩
  have hne : ((x : Int) != 0) = true := by have := of1; rw [← hx] at this; simpa using this
  obtain ⟨y, hy⟩ : ∃ y, y = mixN 1 := ⟨_, rfl⟩
  have HX := Lib.hid hx
  have HY := Lib.hid hy
  clear hx hy
  go_enter Try.func6, Try.ntmps6
  go_wp2_with fail
  refine (mix 0 (by decide) _).mono ?_
  rintro e w' ⟨rfl, rfl⟩
  rw [mix0]
  go_wp2_with fail
  refine (mix 1 (by decide) _).mono ?_
  rintro e w' ⟨rfl, rfl⟩
  rw [← HY.out]
  go_wp2_with fail
  refine (ref_mix 1 (by decide) _).mono ?_
  rintro e w' ⟨rfl, rfl⟩
  rw [← HY.out]
  go_wp2_with fail
  refine (hnew 1 _).mono ?_
  rintro e w1 ⟨rfl, h1, g1⟩
  go_wp2_with fail
  refine (hof w.heap.size 1 0 0 ⟨#[]⟩ w1 h1 (by omega) (by omega) (by simp [ByteArray.size])).mono ?_
  rintro e w2 ⟨rfl, h2, g2⟩
  rw [← HX.out]
  go_wp2_with fail
  go_ret
  exact ⟨rfl, below_grown g1.below g2 (Nat.le_refl _)⟩

end Go.Proofs.Ytfmngoniofoiiaa

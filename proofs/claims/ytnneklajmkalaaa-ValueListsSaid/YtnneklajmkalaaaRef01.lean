/- What the document's answer for layer 1 returns (package easementref01), and that the chapter's examples hold. -/
import Derived.Test.YtnneklajmkalaaaWalks01
import Derived.Lib.Hide
namespace Go.Proofs.Ytnneklajmkalaaa
open Go.RowKit

set_option maxHeartbeats 400000 in
theorem ref_right (k n : Int) (s : ByteArray) (w : World) :
    Calls Try.prog 12 #[vv k n s] w fun e w' => e = .returned (.bool (rightB k n s)) ∧ Gw w w' := by
  go_enter Try.func12, Try.ntmps12
  go_wp2
  all_goals go_ret
  all_goals exact ⟨ret_bool (by simp_all [rightB]), (Gw.refl _).alloc _ _⟩

theorem ref_less_k (k n : Int) (s : ByteArray) (k' n' : Int) (s' : ByteArray) (w : World) (h : ¬ k = k') :
    Calls Try.prog 22 #[vv k n s, vv k' n' s'] w fun e w' => e = .returned (.bool (lessB k n s k' n' s')) ∧ Gw w w' := by
  have h1 : (k != k') = true := by simpa using h
  go_enter Try.func22, Try.ntmps22
  go_wp2
  go_ret
  exact ⟨ret_bool (less_k h), ((Gw.refl _).alloc _ _).alloc _ _⟩
theorem ref_less_n (k n : Int) (s : ByteArray) (n' : Int) (s' : ByteArray) (w : World) (h : ¬ n = n') :
    Calls Try.prog 22 #[vv k n s, vv k n' s'] w fun e w' => e = .returned (.bool (lessB k n s k n' s')) ∧ Gw w w' := by
  have h1 : (n != n') = true := by simpa using h
  go_enter Try.func22, Try.ntmps22
  go_wp2
  go_ret
  exact ⟨ret_bool (less_n rfl h), ((Gw.refl _).alloc _ _).alloc _ _⟩

set_option maxHeartbeats 1000000 in
theorem ref_less_s (k n : Int) (s s' : ByteArray) (w : World) (hs : s.size ≤ 9223372036854775807) (_hs' : s'.size ≤ 9223372036854775807) :
    Calls Try.prog 22 #[vv k n s, vv k n s'] w fun e w' => e = .returned (.bool (lessB k n s k n s')) ∧ Gw w w' := by
  go_enter Try.func22, Try.ntmps22
  go_wp2
  go_loopw [5] (fun i wr => ∃ j q : Nat, j ≤ s.size ∧ j ≤ s'.size ∧ i = .int .i64 j ∧ Hid (lcmp s.toList s'.toList = lcmp (s.toList.drop j) (s'.toList.drop j)) ∧ wr = ((w.alloc (.cells #[.int .u8 k, .int .i64 n, .string s] 29)).alloc (.cells #[.int .u8 k, .int .i64 n, .string s'] 29)).drewN q) (fun i _ => s.size - (intOf i).toNat)
  case atStart => exact ⟨0, 0, Nat.zero_le _, Nat.zero_le _, rfl, rfl, rfl⟩
  case round =>
    obtain ⟨j, q, hj, hj', rfl, HD, rfl⟩ := hrel
    by_cases h1 : j < s.size
    · by_cases h2 : j < s'.size
      · cases hne : ((s[j].toNat : Int) != (s'[j].toNat : Int))
        · go_wp2
          go_quiet (fail)
          go_wp2
          refine ⟨⟨j + 1, q + nq, by omega, by omega, by go_num, lc_on h1 h2 HD.out hne, rfl⟩, ?_⟩
          simp [intOf]; omega
        · go_wp2
          go_quiet (fail)
          go_wp2
          go_quiet (fail)
          go_wp2
          go_ret
          exact ⟨ret_bool (by rw [less_s]; exact lc_part h1 h2 HD.out hne), (((((Gw.refl _).alloc _ _).alloc _ _).drewN _).drewN _).drewN _⟩
      · go_wp2
        go_ret
        exact ⟨ret_bool (by rw [less_s]; exact lc_end hj hj' HD.out (by omega)), (((Gw.refl _).alloc _ _).alloc _ _).drewN _⟩
    · go_wp2
      go_ret
      exact ⟨ret_bool (by rw [less_s]; exact lc_end hj hj' HD.out (by omega)), (((Gw.refl _).alloc _ _).alloc _ _).drewN _⟩

theorem ref_less (k n : Int) (s : ByteArray) (k' n' : Int) (s' : ByteArray) (w : World) (hs : s.size ≤ 9223372036854775807) (hs' : s'.size ≤ 9223372036854775807) :
    Calls Try.prog 22 #[vv k n s, vv k' n' s'] w fun e w' => e = .returned (.bool (lessB k n s k' n' s')) ∧ Gw w w' := by
  by_cases h : k = k'
  · subst h
    by_cases h2 : n = n'
    · subst h2; exact ref_less_s k n s s' w hs hs'
    · exact ref_less_n k n s n' s' w h2
  · exact ref_less_k k n s k' n' s' w h

theorem ref_compare (k n : Int) (s : ByteArray) (k' n' : Int) (s' : ByteArray) (w : World) (hs : s.size ≤ 9223372036854775807) (hs' : s'.size ≤ 9223372036854775807) :
    Calls Try.prog 9 #[vv k n s, vv k' n' s'] w fun e w' => e = .returned (.int .i64 (vcmp k n s k' n' s')) ∧ Gw w w' := by
  go_enter Try.func9, Try.ntmps9
  go_wp2_with fail
  refine (ref_less _ _ _ _ _ _ _ hs hs').mono ?_
  rintro e w1 ⟨rfl, g1⟩
  obtain ⟨a0, a1, a2, b0, b1, b2⟩ := g1.two3
  go_wp2_with fail
  refine (ref_less _ _ _ _ _ _ _ hs' hs).mono ?_
  rintro e w2 ⟨rfl, g2⟩
  clear a0 a1 a2 b0 b1 b2
  go_wp2_with fail
  all_goals go_ret
  all_goals exact ⟨ret_int (by first | exact cm_m1 ‹_› | exact cm_p1 ‹_› | exact cm_0 ‹_› ‹_›), (((Gw.refl _).alloc _ _).alloc _ _).trans (g1.trans g2)⟩

set_option maxHeartbeats 400000 in
theorem lives (w : World) : Calls Try.prog 7 #[] w fun e w' => e = .returned (.bool true) ∧ Gw w w' := by
  go_enter Try.func7, Try.ntmps7
  go_wp2_with fail
  refine (truth_f _).mono ?_
  rintro e w1 ⟨rfl, g1⟩
  go_wp2_with fail
  refine (compare _ _ _ _ _ _ _).mono ?_
  rintro e w2 ⟨rfl, g2⟩
  have v1 : vcmp 0 0 ⟨#[]⟩ 1 0 ⟨#[]⟩ = -1 := by decide
  have v2 : vcmp 2 (-1) ⟨#[]⟩ 2 0 ⟨#[]⟩ = -1 := by decide
  go_wp2_with fail
  refine (number _ _).mono ?_
  rintro e w3 ⟨rfl, g3⟩
  go_wp2_with fail
  refine (number _ _).mono ?_
  rintro e w4 ⟨rfl, g4⟩
  go_wp2_with fail
  refine (compare _ _ _ _ _ _ _).mono ?_
  rintro e w5 ⟨rfl, g5⟩
  go_wp2_with fail
  refine (truth_t _).mono ?_
  rintro e w6 ⟨rfl, g6⟩
  have hf : ∀ w, (Instr.field 24 (vv 1 1 ⟨#[]⟩) 1).run Try.prog w = .ok (.int .i64 1) w := fun _ => by kernel_rfl
  go_wp2_with fail
  go_ret
  exact ⟨rfl, g1.trans (g2.trans (g3.trans (g4.trans (g5.trans g6))))⟩

end Go.Proofs.Ytnneklajmkalaaa

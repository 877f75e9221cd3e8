/- The chapter's example of layer 2 holds; and what the calls of no reader return. -/
import Derived.Test.YtbfnlpooocaeiaaVread02
import Derived.Test.YtbfnlpooocaeiaaRef02
namespace Go.Proofs.Ytbfnlpooocaeiaa
open Go.RowKit

set_option maxHeartbeats 1000000 in
theorem lives2 (w : World) : Calls Try.prog 6 #[] w fun e w' => e = .returned (.bool true) ∧ Below w.heap.size w w' := by
  have hl : [9] ++ valB 2 (-2) ⟨#[]⟩ = [9, 2, 254, 255, 255, 255, 255, 255, 255, 255] := by decide
  have HL := Lib.hid hl
  clear hl
  go_enter Try.func6, Try.ntmps6
  go_wp2_with fail
  refine (pvalue _ [9] 2 (-2) ⟨#[]⟩ _ (Bs.single w 9 9 5 rfl _ rfl) (by omega) (by omega) (by simp [ByteArray.size])).mono ?_
  rintro en w1 ⟨v1, rfl, hown1, hb1⟩
  rw [HL.out] at hown1
  have hcv := run_str (P := Try.prog) (src := 30) (dst := 9) Try.underlying30 Try.underlying5 Try.underlying9 hown1.bs
  go_wp2_with fail
  refine (ropen v1 _ w1 hown1.bs (by simp)).mono ?_
  rintro en w2 ⟨b, rfl, hr2, hb2, _⟩
  go_wp2_with fail
  refine (rleft b _ _ w2 hr2).mono ?_
  rintro en w3 ⟨rfl, rfl⟩
  go_wp2_with fail
  go_ret
  exact ⟨rfl, below_trans (below_box hb1) hb2⟩

theorem nfailed (w : World) : Calls Try.prog 11 #[.pointer none] w fun en w' => en = .returned (.int .i64 1) ∧ w = w' := by
  go_enter Try.func11, Try.ntmps11
  go_wp2
  go_ret
  exact ⟨rfl, rfl⟩
theorem nleft (w : World) : Calls Try.prog 10 #[.pointer none] w fun en w' => en = .returned (.int .i64 0) ∧ w = w' := by
  go_enter Try.func10, Try.ntmps10
  go_wp2
  go_ret
  exact ⟨rfl, rfl⟩
theorem nend (w : World) : Calls Try.prog 12 #[.pointer none] w fun en w' => en = .returned (.int .i64 1) ∧ w = w' := by
  go_enter Try.func12, Try.ntmps12
  go_wp2_with (first | (go_at_call 11; refine (nfailed _).mono ?_; rintro e w' ⟨rfl, rfl⟩))
  go_ret
  exact ⟨rfl, rfl⟩
theorem ntake (n : Int) (w : World) : Calls Try.prog 22 #[.pointer none, .int .i64 n] w fun en w' => en = .returned (.slice none 0 0) ∧ w = w' := by
  go_enter Try.func22, Try.ntmps22
  go_wp2_with (first | (go_at_call 11; refine (nfailed _).mono ?_; rintro e w' ⟨rfl, rfl⟩))
  go_ret
  exact ⟨rfl, rfl⟩
theorem nnumber (n : Int) (w : World) : Calls Try.prog 7 #[.pointer none, .int .i64 n] w fun en w' => en = .returned (.int .u64 0) ∧ w = w' := by
  go_enter Try.func7, Try.ntmps7
  go_wp2_with (first | (go_at_call 23; refine (sized _ _).mono ?_; rintro e w' ⟨rfl, rfl⟩) | (go_at_call 22; refine (ntake _ _).mono ?_; rintro e w' ⟨rfl, rfl⟩))
  go_loop [5, 13] (fun n i => n = .int .u64 0 ∧ i = .int .i64 0) (fun _ _ => 0)
  case atStart => exact ⟨rfl, rfl⟩
  case round =>
    obtain ⟨rfl, rfl⟩ := hrel
    go_wp2
    go_ret
    exact ⟨rfl, rfl⟩
theorem ntext (n : Int) (w : World) : Calls Try.prog 8 #[.pointer none, .int .i64 n] w fun en w' => en = .returned (.string ⟨#[]⟩) ∧ w = w' := by
  go_enter Try.func8, Try.ntmps8
  go_wp2_with (first | (go_at_call 11; refine (nfailed _).mono ?_; rintro e w' ⟨rfl, rfl⟩) | (go_at_call 7; refine (nnumber _ _).mono ?_; rintro e w' ⟨rfl, rfl⟩))
  go_ret
  exact ⟨rfl, rfl⟩
set_option maxHeartbeats 400000 in
theorem nvalue (w : World) : Calls Try.prog 9 #[.pointer none] w fun en w' => en = .returned (vv 0 0 ⟨#[]⟩) ∧ Below w.heap.size w w' := by
  go_enter Try.func9, Try.ntmps9
  go_wp2_with (first | (go_at_call 11; refine (nfailed _).mono ?_; rintro e w' ⟨rfl, rfl⟩) | (go_at_call 7; refine (nnumber _ _).mono ?_; rintro e w' ⟨rfl, rfl⟩))
  exact bodyPost_ret (v := vv 0 0 ⟨#[]⟩) (by simp [results, Try.results9, go_sem]) rfl ⟨rfl, ((Below.refl _ _).alloc (Nat.le_refl _) _).alloc (by simp) _⟩

end Go.Proofs.Ytbfnlpooocaeiaa

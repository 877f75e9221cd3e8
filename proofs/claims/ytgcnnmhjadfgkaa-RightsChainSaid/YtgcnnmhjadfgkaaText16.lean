/- Package rights: at, Text: contracts, for all rights. -/
import Derived.Test.YtgcnnmhjadfgkaaRights16
import Derived.Test.YtgcnnmhjadfgkaaBytes
import Derived.Laws.Rows
import Derived.Lib.SmallJoins
import Derived.IntWalk
import Derived.Deep.LoopGhost
namespace Go.Proofs.Ytgcnnmhjadfgkaa
set_option maxRecDepth 100000
set_option linter.unusedSimpArgs false
set_option linter.unusedVariables false
open Go.RowKit
/-- The letter of a right. -/
def ltr : Nat → UInt8
  | 0 => 114
  | 1 => 100
  | 2 => 116
  | 3 => 103
  | _ => 118
/-- The letter at a place of the text of rights. -/
def lt1 (n j : Nat) : UInt8 := if n.testBit j then ltr j else 45
/-- The text of rights. -/
def rt (n : Nat) : List UInt8 := [lt1 n 0, lt1 n 1, lt1 n 2, lt1 n 3, lt1 n 4]
/-- The letters, those of the first j places as the rights have them. -/
def rtj (n j : Nat) : List UInt8 := (List.range 5).map fun i => if i < j then lt1 n i else ltr i
theorem rat (j : Nat) (hj : j < 5) (w : World) : Calls Try.prog 13 #[.int .i64 j] w fun e w' => e = .returned (.int .u8 (2 ^ j : Nat)) ∧ w = w' := by
  have h5 : j = 0 ∨ j = 1 ∨ j = 2 ∨ j = 3 ∨ j = 4 := by omega
  rcases h5 with rfl | rfl | rfl | rfl | rfl <;>
  · go_enter Try.func13, Try.ntmps13
    go_wp2_with fail
    go_ret
    exact ⟨rfl, rfl⟩
theorem hasN_bit (n j : Nat) : hasN n (2 ^ j) = n.testBit j := by
  unfold hasN
  rw [Bool.eq_iff_iff, decide_eq_true_eq]
  refine ⟨fun h => ?_, fun h => Nat.eq_of_testBit_eq fun i => ?_⟩
  · have h1 := congrArg (fun x => x.testBit j) h
    simp only [Nat.testBit_and, Nat.testBit_two_pow, decide_true, Bool.and_true] at h1
    exact h1
  · rw [Nat.testBit_and, Nat.testBit_two_pow]
    by_cases e : j = i
    · subst e; simp [h]
    · simp [e]
theorem pow5 {j : Nat} (hj : j < 5) : 2 ^ j < 256 := Nat.pow_lt_pow_right (m := j) (n := 8) (by decide) (by omega)
theorem rtj_next (n j : Nat) (hj : j < 5) (w : World) (b : Nat) (h : w.heap[b]? = some (.cells (bc (rtj n j)).toArray 5 (5, 6))) :
    (n.testBit j = true → w.heap[b]? = some (.cells (bc (rtj n (j + 1))).toArray 5 (5, 6))) ∧
    (n.testBit j = false → (w.setCell ⟨b, j, none⟩ (.int .u8 45)).heap[b]? = some (.cells (bc (rtj n (j + 1))).toArray 5 (5, 6))) := by
  have h5 : j = 0 ∨ j = 1 ∨ j = 2 ∨ j = 3 ∨ j = 4 := by omega
  refine ⟨fun e => ?_, fun e => ?_⟩
  · rw [h]
    rcases h5 with rfl | rfl | rfl | rfl | rfl <;> simp [rtj, bc, lt1, e, List.range, List.range.loop]
  · rw [show (w.setCell ⟨b, j, none⟩ (.int .u8 45)).heap[b]? = some (.cells ((bc (rtj n j)).toArray.setIfInBounds j (.int .u8 45)) 5 (5, 6)) by simp [World.setCell, Array.getElem?_modify, h]]
    rcases h5 with rfl | rfl | rfl | rfl | rfl <;> simp [rtj, bc, lt1, e, List.range, List.range.loop]
theorem rtj_len (n j : Nat) : (rtj n j).length = 5 := rfl
theorem rtj_five (n : Nat) : rtj n 5 = rt n := rfl
set_option maxHeartbeats 2000000 in
theorem rtext (n : Nat) (hn : n < 256) (w : World) : Calls Try.prog 10 #[.int .u8 n] w fun e w' => e = .returned (.string ⟨(rt n).toArray⟩) ∧ Below w.heap.size w w' := by
  have hq : (w.alloc (.cells #[.int .u8 114, .int .u8 100, .int .u8 116, .int .u8 103, .int .u8 118] 5 (5, 6))).heap[w.heap.size]? = some (.cells (bc (rtj n 0)).toArray 5 (5, 6)) := heap_alloc_new w _
  have hb : Below w.heap.size w (w.alloc (.cells #[.int .u8 114, .int .u8 100, .int .u8 116, .int .u8 103, .int .u8 118] 5 (5, 6))) := (Below.refl _ w).alloc (Nat.le_refl _) _
  have HQ := Lib.hid (And.intro hq hb)
  have hcs := Lib.run_convert_bytes_const (P := Try.prog) w 33 5 #[.int .u8 114, .int .u8 100, .int .u8 116, .int .u8 103, .int .u8 118] 5 5 Try.underlying33 Try.underlying5
  simp only [List.size_toArray, List.length_cons, List.length_nil, Nat.zero_add, Nat.reduceAdd] at hcs
  clear hq hb
  go_enter Try.func10, Try.ntmps10
  go_wp2_with fail
  go_loopg [9] 5 (fun c' s9 wr => ∃ j : Nat, j + c' = 5 ∧ s9 = .int .i64 j ∧ wr.heap[w.heap.size]? = some (.cells (bc (rtj n j)).toArray 5 (5, 6)) ∧ Below w.heap.size w wr)
  case atStart => exact ⟨0, rfl, rfl, HQ.out⟩
  case round =>
    obtain ⟨j, hj, rfl, hr, hb⟩ := hrel
    have HR := Lib.hid (And.intro hr hb)
    have hlt : w.heap.size < wr.heap.size := (Array.getElem?_eq_some_iff.1 hr).1
    by_cases h1 : j < 5
    · have hc := cell_of_row wr w.heap.size j _ _ (5, 6) hr
      have hf : wr.frozen? ⟨w.heap.size, j, none⟩ = false := by simp [World.frozen?, hr]; omega
      rw [List.getElem?_toArray, bc_at, List.getElem?_eq_getElem (by rw [rtj_len]; omega)] at hc
      simp only [Option.map_some] at hc
      have HN := Lib.hid (rtj_next n j h1 wr w.heap.size hr)
      have h10 : (j : Int) < 5 := by omega
      have h11 : (0 : Int) ≤ (j : Int) := by omega
      clear hr hb
      go_wp2_with fail
      refine (rat j h1 _).mono ?_
      rintro e w' ⟨rfl, rfl⟩
      go_wp2_with fail
      refine (rhas n (2 ^ j) _ hn (pow5 h1)).mono ?_
      rintro e w' ⟨rfl, rfl⟩
      rw [hasN_bit]
      cases hbit : n.testBit j
      · go_wp2_with fail
        go_roundg (5 - (j + 1))
        case measure => omega
        case rel => exact ⟨j + 1, by omega, rfl, HN.out.2 hbit, HR.out.2.setCell (Nat.le_refl _) _⟩
      · go_wp2_with fail
        go_roundg (5 - (j + 1))
        case measure => omega
        case rel => exact ⟨j + 1, by omega, rfl, HN.out.1 hbit, HR.out.2⟩
    · obtain rfl : j = 5 := by omega
      have hcv := run_str (P := Try.prog) (w := wr) (src := 33) (dst := 9) (v := .slice (some ⟨w.heap.size, 0, none⟩) 5 5) (l := rt n) Try.underlying33 Try.underlying5 Try.underlying9 (.inr ⟨_, 5, rfl, Nat.le_refl _, by decide, fun i x hx => by
        have := cell_of_row wr w.heap.size i _ _ (5, 6) hr
        rw [List.getElem?_toArray, bc_at, rtj_five, hx] at this
        simp only [Option.map_some] at this
        unfold Addr.add
        split
        · rename_i e
          subst e
          exact this
        · simpa using this⟩)
      clear hr hb
      go_wp2_with fail
      go_ret
      exact ⟨rfl, HR.out.2⟩
end Go.Proofs.Ytgcnnmhjadfgkaa

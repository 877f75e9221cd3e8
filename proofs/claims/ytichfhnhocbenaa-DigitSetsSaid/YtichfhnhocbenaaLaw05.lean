/- Layer 5's laws: the chapter's examples hold; the document's set and its count. -/
import Derived.Test.YtichfhnhocbenaaDigit05
import Derived.Laws.OwnMore
namespace Go.Proofs.Ytichfhnhocbenaa
open Go.RowKit

theorem lives5 (w : World) : Calls Try.prog 5 #[] w fun e w' => e = .returned (.bool true) ∧ w = w' := by
  go_enter Try.func5, Try.ntmps5
  go_wp2_with fail
  refine (at_run 33 1 (by decide) _).mono ?_
  rintro e w' ⟨rfl, rfl⟩
  go_wp2_with fail
  refine (levels_run 33 (by decide) (by decide) _).mono ?_
  rintro e w' ⟨⟨h, rfl, h1, h2⟩, rfl⟩
  obtain rfl : h = 2 := by
    have a : h ≤ 2 := Nat.le_of_not_lt fun h' => absurd (h2 2 h') (by decide)
    have : h = 0 ∨ h = 1 ∨ h = 2 := by omega
    rcases this with rfl | rfl | rfl
    · exact absurd h1 (by decide)
    · exact absurd h1 (by decide)
    · rfl
  go_wp2_with fail
  go_ret
  exact ⟨rfl, rfl⟩

/-- Block b holds, digit by digit, whether it is in the set. -/
def Brow (w : World) (b n : Nat) : Prop := ∃ A : Array Value, w.heap[b]? = some (.cells A 4 (0, 0)) ∧ ∀ j, j < 32 → A[j]? = some (.bool (n.testBit j))
theorem Brow.cell {w : World} {b n : Nat} (h : Brow w b n) {j : Nat} (hj : j < 32) : w.cell? ⟨b, j, none⟩ = some (.bool (n.testBit j)) := by
  obtain ⟨A, ha, hA⟩ := h
  rw [cell_of_row w b j A _ _ ha, hA j hj]
theorem Brow.lt {w : World} {b n : Nat} (h : Brow w b n) : b < w.heap.size := by
  obtain ⟨A, ha, _⟩ := h
  exact (Array.getElem?_eq_some_iff.1 ha).1
theorem Brow.below {w w' : World} {b n : Nat} (h : Brow w b n) (g : Below w.heap.size w w') : Brow w' b n := by
  have hb := h.lt
  obtain ⟨A, ha, hA⟩ := h
  exact ⟨A, (g.block b hb).trans ha, hA⟩

theorem bool_info : (Try.prog.info? 4).map (fun i => (i.zero, i.size, i.bytes)) = some (some (.bool false), 1, 1) := by kernel_rfl

/-- One digit more. -/
theorem set_more {A : Array Value} {n k : Nat} {v : Value} (hs : A.size = 32) (hk : k < 32) (hA : ∀ j, j < k → A[j]? = some (.bool (n.testBit j))) (hv : v = .bool (n.testBit k)) : ∀ j, j < k + 1 → (A.setIfInBounds k v)[j]? = some (.bool (n.testBit j)) := by
  intro j hj
  by_cases e : j = k
  · subst e; subst hv; rw [Array.getElem?_setIfInBounds_self_of_lt (by omega)]
  · rw [Array.getElem?_setIfInBounds_ne (fun h => e h.symm)]; exact hA j (by omega)

theorem ref_set (n : Nat) (hn : n < 4294967296) (w : World) : Calls Try.prog 6 #[.int .u32 n] w fun e w' => e = .returned (.slice (some ⟨w.heap.size, 0, none⟩) 32 32) ∧ Gw w w' ∧ Brow w' w.heap.size n := by
  obtain ⟨i0, hi, hz0, hz1, hz2⟩ := info_parts bool_info
  have hmk : ∀ W : World, (Instr.makeSlice 25 (.int .i64 32) (.int .i64 32)).run Try.prog W = .ok (.slice (some ⟨W.heap.size, 0, none⟩) 32 32) (W.alloc (.cells (madeCells #[.bool false] 32) 4)) := fun W => by
    have := run_make (P := Try.prog) W 25 4 i0 (.bool false) Try.underlying25 hi hz0 .i64 .i64 32 32 (by omega) (by omega) (by rw [hz2]; omega) (by omega)
    rw [this, hz1]
    rfl
  clear hz0 hz1 hz2 hi i0
  go_enter Try.func6, Try.ntmps6
  go_wp2_with fail
  go_loopw [0, 4] (fun m i wr => ∃ (k : Nat) (A : Array Value), k ≤ 32 ∧ i = .int .i64 k ∧ m = .int .u32 (n / 2 ^ k : Nat) ∧ A.size = 32 ∧ wr.heap[w.heap.size]? = some (.cells A 4 (0, 0)) ∧ (∀ j, j < k → A[j]? = some (.bool (n.testBit j))) ∧ Gw w wr) (fun _ i _ => 32 - (intOf i).toNat)
  case atStart => exact ⟨0, _, by decide, rfl, by simp, by simp [size_madeCells], heap_alloc_new w _, fun j hj => by omega, (Gw.refl w).alloc _ _⟩
  case round =>
    obtain ⟨k, A, hk, rfl, rfl, hs, hA, hbits, hG⟩ := hrel
    obtain ⟨q, hq⟩ : ∃ q, q = n / 2 ^ k := ⟨_, rfl⟩
    rw [← hq]
    have hqn : q < 4294967296 := by rw [hq]; exact Nat.lt_of_le_of_lt (Nat.div_le_self _ _) hn
    have HQ := Lib.hid hq
    have HB := Lib.hid hbits
    have HA := Lib.hid hA
    clear hq hbits
    by_cases h1 : k < 32
    · obtain ⟨x, hx⟩ : ∃ x, A[k]? = some x := ⟨_, Array.getElem?_eq_getElem (by omega)⟩
      have hc : wr.cell? ⟨w.heap.size, k, none⟩ = some x := (cell_of_row _ _ _ _ _ _ hA).trans hx
      have hf : wr.frozen? ⟨w.heap.size, k, none⟩ = false := frozen_of_row _ _ _ _ _ hA
      clear hA hx
      go_wp2_with fail
      go_roundw
      case rel =>
        refine ⟨k + 1, A.setIfInBounds k _, by omega, by go_num, ?_, by simpa using hs, heap_setCell_same wr w.heap.size k A _ _ HA.out, set_more hs h1 HB.out ?_, hG.setCell (Nat.le_refl _) _⟩
        · rw [Nat.pow_succ, ← Nat.div_div_eq_div_mul, ← HQ.out]; go_num
        · rw [Nat.testBit_eq_decide_div_mod_eq, ← HQ.out]
          congr 1
          rw [Bool.eq_iff_iff]
          simp only [beq_iff_eq, decide_eq_true_eq]
          omega
      case measure => simp [intOf]; omega
    · obtain rfl : k = 32 := by omega
      go_wp2_with fail
      go_ret
      exact ⟨rfl, hG, A, HA.out, HB.out⟩

/-- The document's count. -/
theorem ref_below (n : Nat) (hn : n < 4294967296) (i : Int) (w : World) : Calls Try.prog 9 #[.int .u32 n, .int .i64 i] w fun e w' => e = .returned (.int .i64 (placeN n i)) ∧ Gw w w' := by
  go_enter Try.func9, Try.ntmps9
  go_wp2_with fail
  refine (ref_set n hn _).mono ?_
  rintro e w1 ⟨rfl, g1, hb⟩
  go_wp2_with fail
  go_loopw [6, 7] (fun s x wr => ∃ k : Nat, k ≤ 32 ∧ (k : Int) ≤ max i 0 ∧ x = .int .i64 k ∧ s = .int .i64 (cnt n k) ∧ w1 = wr) (fun _ x _ => 32 - (intOf x).toNat)
  case atStart => exact ⟨0, by decide, by omega, rfl, rfl, rfl⟩
  case round =>
    obtain ⟨k, hk, hki, rfl, rfl, rfl⟩ := hrel
    obtain ⟨s, hs⟩ : ∃ s, s = cnt n k := ⟨_, rfl⟩
    have hs32 : s ≤ 32 := by rw [hs]; exact Nat.le_trans (cnt_le n k) hk
    rw [← hs]
    have HS := Lib.hid hs
    clear hs
    have fin : ¬ (k < 32 ∧ (k : Int) < i) → s = placeN n i := fun h => by
      rw [HS.out]
      unfold placeN
      congr 1
      omega
    have HF := Lib.hid fin
    clear fin
    by_cases h1 : k < 32
    · by_cases h2 : (k : Int) < i
      · have hc := hb.cell h1
        cases ht : n.testBit k
        · rw [ht] at hc
          go_wp2_with fail
          go_roundw
          case rel => exact ⟨k + 1, by omega, by omega, by go_num, by show _ = Value.int .i64 ((cnt n k + (n.testBit k).toNat : Nat) : Int); rw [ht, ← HS.out]; simp, trivial⟩
          case measure => simp [intOf]; omega
        · rw [ht] at hc
          go_wp2_with fail
          go_roundw
          case rel => exact ⟨k + 1, by omega, by omega, by go_num, by show _ = Value.int .i64 ((cnt n k + (n.testBit k).toNat : Nat) : Int); rw [ht, ← HS.out]; go_num, trivial⟩
          case measure => simp [intOf]; omega
      · go_wp2_with fail
        go_ret
        exact ⟨ret_int (by rw [HF.out (by omega)]), g1⟩
    · go_wp2_with fail
      go_ret
      exact ⟨ret_int (by rw [HF.out (by omega)]), g1⟩

end Go.Proofs.Ytichfhnhocbenaa

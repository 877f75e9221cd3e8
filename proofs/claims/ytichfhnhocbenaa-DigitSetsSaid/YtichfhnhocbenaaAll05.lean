/- Layer 5: All yields the digits of a set, rising. -/
import Derived.Test.YtichfhnhocbenaaDigit05
import Derived.Test.YtichfhnhocbenaaRange
import Derived.RangeFuncCalls
import Derived.Shelf.RegionOpen
import Derived.OwnWalkIn
import Derived.TacticsInMore
import Derived.LoopNIn
import Derived.LoopIn
namespace Go.Proofs.Ytichfhnhocbenaa
open Go.RowKit Go.Shelf
attribute [local go_sem] Oper.semAt_some

/-- The digits below k of a set, rising. -/
def dgs (n : Nat) : Nat → List Nat
  | 0 => []
  | k + 1 => dgs n k ++ (if n.testBit k then [k] else [])
theorem dgs_len (n : Nat) : ∀ k, (dgs n k).length = cnt n k
  | 0 => rfl
  | k + 1 => by
    unfold dgs cnt
    rw [List.length_append, dgs_len n k]
    cases n.testBit k <;> rfl
theorem dgs_more (n k : Nat) : ∀ j, dgs n k <+: dgs n (k + j)
  | 0 => List.prefix_refl _
  | j + 1 => (dgs_more n k j).trans (by rw [← Nat.add_assoc]; exact List.prefix_append _ _)
/-- Where a digit comes up. -/
theorem dgs_at (n k : Nat) (hk : k < 32) (hb : n.testBit k = true) : (dgs n 32)[cnt n k]? = some k := by
  obtain ⟨t, ht⟩ := dgs_more n (k + 1) (31 - k)
  rw [show k + 1 + (31 - k) = 32 by omega] at ht
  rw [← ht]
  have : dgs n (k + 1) = dgs n k ++ [k] := by unfold dgs; rw [hb]; cases k <;> rfl
  rw [this, ← dgs_len n k, List.append_assoc, List.getElem?_append_right (Nat.le_refl _)]
  simp
theorem dgs_back (n : Nat) : ∀ (k i x : Nat), (dgs n k)[i]? = some x → x < k ∧ n.testBit x = true ∧ cnt n x = i
  | 0, i, x, h => by simp [dgs] at h
  | k + 1, i, x, h => by
    unfold dgs at h
    by_cases hi : i < (dgs n k).length
    · rw [List.getElem?_append_left hi] at h
      obtain ⟨a, b, c⟩ := dgs_back n k i x h
      exact ⟨by omega, b, c⟩
    · rw [List.getElem?_append_right (by omega)] at h
      cases hb : n.testBit k
      · rw [hb] at h; simp at h
      · rw [hb] at h
        have h' : i - (dgs n k).length = 0 ∧ k = x := by
          cases e : i - (dgs n k).length with
          | zero => rw [e] at h; simpa using h
          | succ m => rw [e] at h; simp at h
        obtain ⟨h1, rfl⟩ := h'
        exact ⟨by omega, hb, by rw [← dgs_len]; omega⟩
theorem cnt_mono (n : Nat) {a : Nat} : ∀ b, cnt n a ≤ cnt n (a + b)
  | 0 => Nat.le_refl _
  | b + 1 => Nat.le_trans (cnt_mono n b) (by rw [← Nat.add_assoc]; show _ ≤ cnt n (a + b) + _; omega)
/-- They rise. -/
theorem dgs_rise (n : Nat) {i j x y : Nat} (hx : (dgs n 32)[i]? = some x) (hy : (dgs n 32)[j]? = some y) (h : i < j) : x < y := by
  obtain ⟨_, _, rfl⟩ := dgs_back n 32 i x hx
  obtain ⟨_, _, rfl⟩ := dgs_back n 32 j y hy
  refine Nat.lt_of_not_le fun hle => ?_
  have := cnt_mono n (a := y) (x - y)
  rw [show y + (x - y) = x by omega] at this
  omega

set_option maxRecDepth 100000 in
theorem all_gives (n : Nat) (hn : n < 4294967296) (Kp : World → World → Prop) (w : World) :
    Gives Try.prog 10 (fun v => #[.int .u32 n] ++ #[v] ++ #[]) (fun x : Nat => #[Value.int .i64 (x : Int)]) Kp (dgs n 32) w := by
  intro l J Jx W _ _ _ hY h0
  refine (callsIn_wide (n := 1)).1 ?_
  refine callsIn_of_wp Try.func10 rfl trivial ?_ rfl
  simp only [Try.ntmps10, List.size_toArray, List.length_cons, List.length_nil, Nat.reduceAdd, Nat.reduceSub, Array.replicate_succ, Array.replicate_zero, List.push_toArray, List.append_toArray, List.nil_append, List.cons_append]
  have hnil : ∀ W : World, Sem.run Try.prog (binOp .eql 28 (.func (.yield l) #[] #[]) .nilFunc) W = .ok (.bool false) W := fun _ => by kernel_rfl
  gi_wp2
  gi_loopw [7] (fun i wr => ∃ k : Nat, k ≤ 32 ∧ i = .int .i64 k ∧ J (cnt n k) wr) (fun i _ => 32 - (intOf i).toNat)
  case atStart => exact ⟨0, by decide, rfl, h0⟩
  case round =>
    obtain ⟨k, hk, rfl, hJ⟩ := hrel
    by_cases h1 : k < 32
    · cases hb : n.testBit k
      · have hc : cnt n (k + 1) = cnt n k := by show cnt n k + (n.testBit k).toNat = _; rw [hb]; rfl
        gi_wp2
        refine ⟨trivial, (callsIn_wide.2 (has n hn k h1 _)).mono ?_⟩
        rintro e w' ⟨rfl, rfl⟩
        rw [hb]
        gi_wp2
        refine ⟨fun _ h => (by cases h), ?_⟩
        gi_wp2
        go_roundw
        case rel => exact ⟨k + 1, by omega, by go_num, by rw [hc]; exact hJ⟩
        case measure => simp [intOf]; omega
      · have hc : cnt n (k + 1) = cnt n k + 1 := by show cnt n k + (n.testBit k).toNat = _; rw [hb]; rfl
        gi_wp2
        refine ⟨trivial, (callsIn_wide.2 (has n hn k h1 _)).mono ?_⟩
        rintro e w' ⟨rfl, rfl⟩
        rw [hb]
        obtain ⟨fn, tmps, assign, body, hy, hR⟩ := hY _ k wr (dgs_at n k h1 hb) hJ
        gi_wp2
        refine hR.mono ?_
        rintro e B (⟨rfl, hJ', _⟩ | ⟨rfl, hJx'⟩)
        · gi_wp2
          go_roundw
          case rel => exact ⟨k + 1, by omega, by go_num, by rw [hc]; exact hJ'⟩
          case measure => simp [intOf]; omega
        · gi_wp2
          refine bodyPost_ret (results_none rfl _ _ _) rfl ?_
          exact ⟨⟨_, rfl⟩, .inr ⟨cnt n k + 1, by rw [dgs_len, ← hc]; have := cnt_mono n (a := k + 1) (31 - k); rwa [show k + 1 + (31 - k) = 32 by omega] at this, hJx'⟩⟩
    · obtain rfl : k = 32 := by omega
      gi_wp2
      go_end0
      exact ⟨⟨_, rfl⟩, .inl (by rw [dgs_len]; exact hJ)⟩

end Go.Proofs.Ytichfhnhocbenaa

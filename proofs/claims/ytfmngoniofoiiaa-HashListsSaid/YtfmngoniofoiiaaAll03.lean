/- What layer 3's All returns, of any list of values, and the document's: their contracts. -/
import Derived.Test.YtfmngoniofoiiaaHash03
import Derived.Test.YtfmngoniofoiiaaVals
namespace Go.Proofs.Ytfmngoniofoiiaa
open Go.RowKit

/-- A number, and a list's values mixed in. -/
def allN (seed : Nat) : Nat → List V3 → Nat
  | acc, [] => acc
  | acc, x :: l => allN seed (mixN (acc ^^^ ofN seed x.1 x.2.1 x.2.2)) l
theorem allN_lt (seed : Nat) : ∀ (l : List V3) {acc : Nat}, acc < 18446744073709551616 → allN seed acc l < 18446744073709551616
  | [], _, h => h
  | x :: l, acc, _ => by rw [allN]; exact allN_lt seed l (mixN_lt _)
theorem allN_snoc (seed : Nat) : ∀ (l : List V3) (acc : Nat) (x : V3), allN seed acc (l ++ [x]) = mixN (allN seed acc l ^^^ ofN seed x.1 x.2.1 x.2.2)
  | [], _, _ => rfl
  | y :: l, acc, x => by rw [List.cons_append, allN, allN, allN_snoc seed l]
theorem allN_take {seed acc : Nat} {l : List V3} {j : Nat} {x : V3} (hj : l[j]? = some x) : allN seed acc (l.take (j + 1)) = mixN (allN seed acc (l.take j) ^^^ ofN seed x.1 x.2.1 x.2.2) := by
  rw [List.take_add_one, hj, Option.toList_some, allN_snoc]
/-- Values that can be hashed. -/
def Okv (l : List V3) : Prop := ∀ x ∈ l, 0 ≤ x.1 ∧ x.1 ≤ 255 ∧ x.2.2.size ≤ 100000000000000
theorem Okv.at {l : List V3} (h : Okv l) {j : Nat} {k n : Int} {s : ByteArray} (hj : l[j]? = some (k, n, s)) : 0 ≤ k ∧ k ≤ 255 ∧ s.size ≤ 100000000000000 := h (k, n, s) (List.mem_of_getElem? hj)

set_option maxHeartbeats 2000000 in
theorem hall (b seed : Nat) (A : Option Addr) (l : List V3) (c : Nat) (w : World) (h : Hs w b seed) (hl : Lst w A l) (hA : ∀ a, A = some a → l ≠ [] → a.block ≠ b) (hn : l.length ≤ 4398046511104) (hok : Okv l) :
    Calls Try.prog 14 #[hp b, .slice A l.length c] w fun e w' => e = .returned (.int .u64 (allN seed (keyN seed) l)) ∧ Hs w' b seed ∧ w.grownBy w' (some b) := by
  have hlt := h.lt
  go_enter Try.func14, Try.ntmps14
  go_wp2_with fail
  refine (start b seed _ h).mono ?_
  rintro e w1 ⟨rfl, h1, g1⟩
  clear h
  go_wp2_with fail
  go_loopw [5, 14] (fun nv i wr => ∃ j : Nat, j ≤ l.length ∧ i = .int .i64 j ∧ nv = .int .u64 (allN seed (keyN seed) (l.take j)) ∧ Hs wr b seed ∧ w.grownBy wr (some b)) (fun _ i _ => l.length - (intOf i).toNat)
  case atStart => exact ⟨0, Nat.zero_le _, rfl, by simp [allN], h1, g1⟩
  case round =>
    clear h1 g1
    obtain ⟨j, hj, rfl, rfl, hh, hg⟩ := hrel
    obtain ⟨m, hm⟩ : ∃ m, m = allN seed (keyN seed) (l.take j) := ⟨_, rfl⟩
    have hmn : m < 18446744073709551616 := by rw [hm]; exact allN_lt _ _ (keyN_lt _)
    rw [← hm]
    have HM := Lib.hid hm
    clear hm
    by_cases h1 : j < l.length
    · obtain ⟨⟨k, n, s⟩, hx⟩ : ∃ x, l[j]? = some x := ⟨_, List.getElem?_eq_getElem h1⟩
      obtain ⟨b', o', rfl, _, c0, c1, c2⟩ := (hl.grown hg hA).at hx
      obtain ⟨hk, hk', hs⟩ := hok.at hx
      have HX := Lib.hid hx
      clear hx
      go_wp2_with fail
      refine (hof b seed k n s _ (hh.alloc _) hk hk' (by omega)).mono ?_
      rintro e w2 ⟨rfl, h2, g2⟩
      have g3 : w.grownBy w2 (some b) := hg.trans (World.grownBy.trans (World.grownBy_alloc _ _ _) g2)
      have hxl := ofN_lt seed k n s
      obtain ⟨y, hy⟩ : ∃ y, y = ofN seed k n s := ⟨_, rfl⟩
      rw [← hy] at hxl ⊢
      have HY := Lib.hid hy
      clear hy g2 hg c0 c1 c2
      have hxr : m ^^^ y < 18446744073709551616 := Nat.xor_lt_two_pow (n := 64) hmn hxl
      go_wp2_with fail
      rw [bits_xor_u64_nat m y hmn hxl]
      refine (mix (m ^^^ y) hxr _).mono ?_
      rintro e w' ⟨rfl, rfl⟩
      go_wp2_with fail
      go_roundw
      case rel => exact ⟨j + 1, by omega, by go_num, by rw [allN_take HX.out, ← HM.out, HY.out], h2, g3⟩
      case measure => simp [intOf]; omega
    · obtain rfl : j = l.length := by omega
      rw [List.take_length] at HM
      go_wp2_with fail
      go_ret
      exact ⟨ret_int (by rw [HM.out]), hh, hg⟩

set_option maxHeartbeats 2000000 in
theorem ref_all (seed : Nat) (A : Option Addr) (l : List V3) (c : Nat) (w : World) (hl : Lst w A l) (hn : l.length ≤ 4398046511104) (hok : Okv l) :
    Calls Try.prog 15 #[.int .u64 seed, .slice A l.length c] w fun e w' => e = .returned (.int .u64 (allN seed (keyN seed) l)) ∧ Below w.heap.size w w' := by
  go_enter Try.func15, Try.ntmps15
  go_wp2_with fail
  refine (ref_key seed _).mono ?_
  rintro e w1 ⟨rfl, rfl⟩
  go_wp2_with fail
  go_loopw [5, 6] (fun nv i wr => ∃ j : Nat, j ≤ l.length ∧ i = .int .i64 j ∧ nv = .int .u64 (allN seed (keyN seed) (l.take j)) ∧ Below w.heap.size w wr) (fun _ i _ => l.length - (intOf i).toNat)
  case atStart => exact ⟨0, Nat.zero_le _, rfl, by simp [allN], Below.refl _ _⟩
  case round =>
    obtain ⟨j, hj, rfl, rfl, hb⟩ := hrel
    obtain ⟨m, hm⟩ : ∃ m, m = allN seed (keyN seed) (l.take j) := ⟨_, rfl⟩
    have hmn : m < 18446744073709551616 := by rw [hm]; exact allN_lt _ _ (keyN_lt _)
    rw [← hm]
    have HM := Lib.hid hm
    clear hm
    by_cases h1 : j < l.length
    · obtain ⟨⟨k, n, s⟩, hx⟩ : ∃ x, l[j]? = some x := ⟨_, List.getElem?_eq_getElem h1⟩
      obtain ⟨b', o', rfl, _, c0, c1, c2⟩ := (hl.below hb).at hx
      obtain ⟨hk, hk', hs⟩ := hok.at hx
      have HX := Lib.hid hx
      clear hx
      go_wp2_with fail
      refine (ref_of seed k n s _ hk hk' (by omega)).mono ?_
      rintro e w2 ⟨rfl, g2⟩
      have g3 := below_trans hb g2
      have hxl := ofN_lt seed k n s
      obtain ⟨y, hy⟩ : ∃ y, y = ofN seed k n s := ⟨_, rfl⟩
      rw [← hy] at hxl ⊢
      have HY := Lib.hid hy
      clear hy g2 hb c0 c1 c2
      have hxr : m ^^^ y < 18446744073709551616 := Nat.xor_lt_two_pow (n := 64) hmn hxl
      go_wp2_with fail
      rw [bits_xor_u64_nat m y hmn hxl]
      refine (ref_mix (m ^^^ y) hxr _).mono ?_
      rintro e w' ⟨rfl, rfl⟩
      go_wp2_with fail
      go_roundw
      case rel => exact ⟨j + 1, by omega, by go_num, by rw [allN_take HX.out, ← HM.out, HY.out], g3⟩
      case measure => simp [intOf]; omega
    · obtain rfl : j = l.length := by omega
      rw [List.take_length] at HM
      go_wp2_with fail
      go_ret
      exact ⟨ret_int (by rw [HM.out]), hb⟩

end Go.Proofs.Ytfmngoniofoiiaa

/- Layer 5, plain: how many digits of a set lie below one; and, or and without, bit by bit. -/
import Derived.Laws.BitsAllLaws
import Derived.Lib.BitFns
namespace Go.Proofs.Ytichfhnhocbenaa

/-- How many bits of n below the i-th are 1. -/
def cnt (n : Nat) : Nat → Nat
  | 0 => 0
  | i + 1 => cnt n i + (n.testBit i).toNat

theorem cnt_le (n : Nat) : ∀ i, cnt n i ≤ i
  | 0 => Nat.le_refl _
  | i + 1 => by have := cnt_le n i; have := Bool.toNat_le (n.testBit i); unfold cnt; omega
theorem cnt_congr {m n : Nat} : ∀ i, (∀ k, k < i → m.testBit k = n.testBit k) → cnt m i = cnt n i
  | 0, _ => rfl
  | i + 1, h => by unfold cnt; rw [cnt_congr i fun k hk => h k (by omega), h i (by omega)]
theorem cnt_add (n a : Nat) : ∀ b, cnt n (a + b) = cnt n a + cnt (n / 2 ^ a) b
  | 0 => by simp [cnt]
  | b + 1 => by
    have : (n / 2 ^ a).testBit b = n.testBit (a + b) := by rw [Nat.testBit_div_two_pow, Nat.add_comm]
    rw [← Nat.add_assoc, show cnt n (a + b + 1) = cnt n (a + b) + (n.testBit (a + b)).toNat from rfl, show cnt (n / 2 ^ a) (b + 1) = cnt (n / 2 ^ a) b + ((n / 2 ^ a).testBit b).toNat from rfl, cnt_add n a b, this]
    omega
theorem cnt_zero : ∀ i, cnt 0 i = 0
  | 0 => rfl
  | i + 1 => by unfold cnt; rw [cnt_zero i]; simp
theorem cnt_small {n a : Nat} (h : n < 2 ^ a) (b : Nat) : cnt n (a + b) = cnt n a := by
  rw [cnt_add, Nat.div_eq_of_lt h, cnt_zero]; rfl
theorem cnt_mod (n a : Nat) : cnt (n % 2 ^ a) a = cnt n a :=
  cnt_congr a fun k hk => by rw [Nat.testBit_mod_two_pow]; simp [hk]
theorem pop_cnt : ∀ f n, Lib.popAux f n = cnt n f
  | 0, _ => rfl
  | f + 1, n => by
    rw [Lib.popAux, pop_cnt f, Nat.add_comm f 1, cnt_add n 1 f]
    have : cnt n 1 = n % 2 := by
      unfold cnt cnt
      rw [Nat.testBit_zero]
      have : n % 2 = 0 ∨ n % 2 = 1 := by omega
      rcases this with h | h <;> simp [h]
    rw [this]
/-- The table's byte. -/
theorem pop8_cnt (x : Nat) (h : x < 256) : Lib.pop8 (x : Int) = (cnt x 8 : Nat) := by
  have e := Lib.pop8_eq ⟨x, h⟩
  simp only at e
  rw [e, Lib.onesCount, pop_cnt, show (64 : Nat) = 8 + 56 from rfl, cnt_small (a := 8) (by omega)]
theorem cnt_32 (n : Nat) : cnt n 32 = cnt (n / 16777216) 8 + cnt (n / 65536 % 256) 8 + cnt (n / 256 % 256) 8 + cnt (n % 256) 8 := by
  have h1 : cnt (n % 256) 8 = cnt n 8 := cnt_mod n 8
  have h2 : cnt (n / 256 % 256) 8 = cnt (n / 256) 8 := cnt_mod _ 8
  have h3 : cnt (n / 65536 % 256) 8 = cnt (n / 65536) 8 := cnt_mod _ 8
  rw [h1, h2, h3, show (32 : Nat) = 8 + (8 + (8 + 8)) from rfl, cnt_add n 8, cnt_add _ 8, cnt_add _ 8, Nat.div_div_eq_div_mul, Nat.div_div_eq_div_mul]
  show cnt n 8 + (cnt (n / 256) 8 + (cnt (n / 65536) 8 + cnt (n / 16777216) 8)) = _
  omega

theorem and_255 (x : Nat) (h : x < 4294967296) : bits .and .u32 (x : Int) 255 = ((x % 256 : Nat) : Int) := by
  have := u32_and_nat x 255 h (by decide)
  rw [nat_mask8] at this
  exact this
theorem and_1 (x : Nat) (h : x < 4294967296) : bits .and .u32 (x : Int) 1 = ((x % 2 : Nat) : Int) := by
  have := u32_and_nat x 1 h (by decide)
  rw [nat_mask1] at this
  exact this
/-- The bits below the i-th. -/
theorem and_low (n i : Nat) (h : n < 4294967296) (hi : i < 32) : bits .and .u32 (n : Int) ((2 ^ i - 1 : Nat) : Int) = ((n % 2 ^ i : Nat) : Int) := by
  have hp : 2 ^ i ≤ 2 ^ 31 := Nat.pow_le_pow_right (by decide) (by omega)
  rw [u32_and_nat n _ h (by omega), Nat.and_two_pow_sub_one_eq_mod]
theorem cnt_low (n i : Nat) (hi : i ≤ 32) : cnt (n % 2 ^ i) 32 = cnt n i := by
  obtain ⟨j, hj⟩ : ∃ j, 32 = i + j := ⟨32 - i, by omega⟩
  rw [hj, cnt_small (Nat.mod_lt _ (Nat.two_pow_pos i)), cnt_mod]

theorem bit_mod (n k : Nat) : (n / 2 ^ k % 2 = 1) ↔ n.testBit k = true := by
  rw [Nat.testBit_eq_decide_div_mod_eq]; simp

/-- The set of those of the numbers that are digits. -/
def ofN : List Int → Nat
  | [] => 0
  | x :: l => (if 0 ≤ x ∧ x < 32 then 2 ^ x.toNat else 0) ||| ofN l
theorem pow_32 {k : Nat} (h : k < 32) : 2 ^ k < 4294967296 := Nat.pow_lt_pow_right (m := k) (n := 32) (by decide) h
theorem ofN_lt : ∀ l, ofN l < 4294967296
  | [] => by decide
  | x :: l => by
    unfold ofN
    refine Nat.or_lt_two_pow (n := 32) ?_ (ofN_lt l)
    split
    · exact pow_32 (by omega)
    · decide
theorem ofN_bit (k : Nat) (hk : k < 32) : ∀ l, (ofN l).testBit k = decide ((k : Int) ∈ l)
  | [] => by simp [ofN]
  | x :: l => by
    unfold ofN
    rw [Nat.testBit_or, ofN_bit k hk l]
    by_cases hx : 0 ≤ x ∧ x < 32
    · rw [if_pos hx, Nat.testBit_two_pow]
      rw [Bool.eq_iff_iff]
      simp only [Bool.or_eq_true, decide_eq_true_eq, List.mem_cons]
      constructor
      · rintro (h | h)
        · left; omega
        · exact .inr h
      · rintro (h | h)
        · left; omega
        · exact .inr h
    · rw [if_neg hx, Nat.zero_testBit, Bool.false_or, Bool.eq_iff_iff]
      simp only [decide_eq_true_eq, List.mem_cons]
      constructor
      · exact .inr
      · rintro (h | h)
        · omega
        · exact h
theorem ofN_snoc : ∀ l x, ofN (l ++ [x]) = ofN l ||| (if 0 ≤ x ∧ x < 32 then 2 ^ x.toNat else 0)
  | [], x => by simp [ofN]
  | y :: l, x => by rw [List.cons_append]; unfold ofN; rw [ofN_snoc l x, Nat.or_assoc]
theorem not_bit (b k : Nat) (hb : b < 4294967296) (hk : k < 32) : (4294967295 - b).testBit k = !b.testBit k := by
  have := Nat.testBit_two_pow_sub_succ (x := b) (n := 32) (by omega) k
  simp [hk] at this
  rw [← this]
end Go.Proofs.Ytichfhnhocbenaa

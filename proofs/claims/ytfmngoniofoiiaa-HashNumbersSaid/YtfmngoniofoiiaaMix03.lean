/- Layer 3's mixing: what it is as plain mathematics, that it is one to one, and what Mix and the document's Mix and Key return. -/
import Derived.Test.YtfmngoniofoiiaaBase01
import Derived.Laws.Bits64b
import Derived.Lib.Hide
import Derived.LoopTactic
namespace Go.Proofs.Ytfmngoniofoiiaa
open Go.RowKit

/-- A number mixed. -/
def mixA (n : Nat) : Nat := (n ^^^ n / 1073741824) * 13787848793156543929 % 18446744073709551616
def mixB (n : Nat) : Nat := (n ^^^ n / 134217728) * 10723151780598845931 % 18446744073709551616
def mixC (n : Nat) : Nat := n ^^^ n / 2147483648
def mixN (n : Nat) : Nat := mixC (mixB (mixA n))

theorem mixA_lt (n : Nat) : mixA n < 18446744073709551616 := Nat.mod_lt _ (by decide)
theorem mixB_lt (n : Nat) : mixB n < 18446744073709551616 := Nat.mod_lt _ (by decide)
theorem mixC_lt {n : Nat} (h : n < 18446744073709551616) : mixC n < 18446744073709551616 :=
  Nat.xor_lt_two_pow (n := 64) h (Nat.lt_of_le_of_lt (Nat.div_le_self _ _) h)
theorem mixN_lt (n : Nat) : mixN n < 18446744073709551616 := mixC_lt (mixB_lt _)

/-- A number against itself moved down is one to one. -/
theorem xs_inj (k : Nat) (hk : 0 < k) {x y : Nat} (hx : x < 2 ^ 64) (hy : y < 2 ^ 64) (h : x ^^^ x / 2 ^ k = y ^^^ y / 2 ^ k) : x = y := by
  have bit : ∀ i, (x.testBit i ^^ x.testBit (i + k)) = (y.testBit i ^^ y.testBit (i + k)) := fun i => by
    have := congrArg (fun z => z.testBit i) h
    simpa [Nat.testBit_xor, Nat.testBit_div_two_pow, Nat.add_comm] using this
  have key : ∀ m i, 64 ≤ i + m * k → x.testBit i = y.testBit i := by
    intro m
    induction m with
    | zero =>
      intro i hi
      have e : 2 ^ 64 ≤ 2 ^ i := Nat.pow_le_pow_right (by decide) (by omega)
      rw [Nat.testBit_lt_two_pow (Nat.lt_of_lt_of_le hx e), Nat.testBit_lt_two_pow (Nat.lt_of_lt_of_le hy e)]
    | succ m ih =>
      intro i hi
      have e := ih (i + k) (by rw [Nat.succ_mul] at hi; omega)
      have b := bit i
      rw [e] at b
      revert b
      cases x.testBit i <;> cases y.testBit i <;> cases y.testBit (i + k) <;> simp
  refine Nat.eq_of_testBit_eq fun i => key 64 i ?_
  have : 64 * 1 ≤ 64 * k := Nat.mul_le_mul_left _ hk
  omega
theorem mul_inj {c d x y : Nat} (hcd : c * d % 18446744073709551616 = 1) (hx : x < 18446744073709551616) (hy : y < 18446744073709551616) (h : x * c % 18446744073709551616 = y * c % 18446744073709551616) : x = y := by
  have back : ∀ z, z < 18446744073709551616 → z * c % 18446744073709551616 * d % 18446744073709551616 = z := fun z hz => by
    rw [Nat.mod_mul_mod, Nat.mul_assoc, Nat.mul_mod, hcd, Nat.mul_one, Nat.mod_mod, Nat.mod_eq_of_lt hz]
  rw [← back x hx, h, back y hy]

theorem xs_lt (k : Nat) {n : Nat} (h : n < 18446744073709551616) : n ^^^ n / k < 18446744073709551616 :=
  Nat.xor_lt_two_pow (n := 64) h (Nat.lt_of_le_of_lt (Nat.div_le_self _ _) h)
theorem mixA_inj {x y : Nat} (hx : x < 18446744073709551616) (hy : y < 18446744073709551616) (h : mixA x = mixA y) : x = y :=
  xs_inj 30 (by decide) hx hy (mul_inj (d := 10871156337175269513) (by decide) (xs_lt _ hx) (xs_lt _ hy) h)
theorem mixB_inj {x y : Nat} (hx : x < 18446744073709551616) (hy : y < 18446744073709551616) (h : mixB x = mixB y) : x = y :=
  xs_inj 27 (by decide) hx hy (mul_inj (d := 3573116690164977347) (by decide) (xs_lt _ hx) (xs_lt _ hy) h)
theorem mixC_inj {x y : Nat} (hx : x < 18446744073709551616) (hy : y < 18446744073709551616) (h : mixC x = mixC y) : x = y :=
  xs_inj 31 (by decide) hx hy h
/-- Mixing is one to one. -/
theorem mixN_inj {x y : Nat} (hx : x < 18446744073709551616) (hy : y < 18446744073709551616) (h : mixN x = mixN y) : x = y :=
  mixA_inj hx hy (mixB_inj (mixA_lt _) (mixA_lt _) (mixC_inj (mixB_lt _) (mixB_lt _) h))
theorem mixN_eq {x y : Nat} (hx : x < 18446744073709551616) (hy : y < 18446744073709551616) : mixN x = mixN y ↔ x = y := ⟨mixN_inj hx hy, fun h => by rw [h]⟩

/-- The key of a seed. -/
def keyN (seed : Nat) : Nat := mixN ((seed + 11400714819323198485) % 18446744073709551616)
theorem keyN_lt (seed : Nat) : keyN seed < 18446744073709551616 := mixN_lt _

theorem mixA_run {n : Nat} (hn : n < 18446744073709551616) : IntKind.u64.wrap (bits .xor .u64 (n : Int) ((n : Int) / 1073741824) * 13787848793156543929) = ((mixA n : Nat) : Int) := mixStep_u64 n 1073741824 13787848793156543929 hn
theorem mixB_run {n : Nat} (hn : n < 18446744073709551616) : IntKind.u64.wrap (bits .xor .u64 (n : Int) ((n : Int) / 134217728) * 10723151780598845931) = ((mixB n : Nat) : Int) := mixStep_u64 n 134217728 10723151780598845931 hn
theorem mixC_run {n : Nat} (hn : n < 18446744073709551616) : bits .xor .u64 (n : Int) ((n : Int) / 2147483648) = ((mixC n : Nat) : Int) := xorShift_u64 n 2147483648 hn

theorem mix (n : Nat) (hn : n < 18446744073709551616) (w : World) : Calls Try.prog 12 #[.int .u64 n] w fun e w' => e = .returned (.int .u64 (mixN n)) ∧ w = w' := by
  go_enter Try.func12, Try.ntmps12
  go_wp2
  go_ret
  exact ⟨ret_int (by rw [mixA_run hn, mixB_run (mixA_lt n), mixC_run (mixB_lt _)]; rfl), rfl⟩

theorem against (n by' : Nat) (hn : n < 18446744073709551616) (hb : by' ≤ 64) (w : World) : Calls Try.prog 20 #[.int .u64 n, .int .i64 by'] w fun e w' => e = .returned (.int .u64 (n ^^^ n / 2 ^ by' : Nat)) ∧ w = w' := by
  go_enter Try.func20, Try.ntmps20
  go_wp2_with fail
  go_loopw [5, 6] (fun m i wr => ∃ j : Nat, j ≤ by' ∧ i = .int .i64 j ∧ m = .int .u64 (n / 2 ^ j : Nat) ∧ w = wr) (fun _ i _ => by' - (intOf i).toNat)
  case atStart => exact ⟨0, Nat.zero_le _, rfl, by simp, rfl⟩
  case round =>
    obtain ⟨j, hj, rfl, rfl, rfl⟩ := hrel
    obtain ⟨q, hq⟩ : ∃ q, q = n / 2 ^ j := ⟨_, rfl⟩
    have hqn : q < 18446744073709551616 := by rw [hq]; exact Nat.lt_of_le_of_lt (Nat.div_le_self _ _) hn
    rw [← hq]
    have HQ := Lib.hid hq
    clear hq
    by_cases h1 : j < by'
    · go_wp2_with fail
      go_roundw
      case rel => exact ⟨j + 1, by omega, by go_num, by rw [Nat.pow_succ, ← Nat.div_div_eq_div_mul, ← HQ.out]; go_num, trivial⟩
      case measure => simp [intOf]; omega
    · obtain rfl : j = by' := by omega
      go_wp2_with fail
      go_ret
      exact ⟨ret_int (by rw [bits_xor_u64_nat n q hn hqn, HQ.out]), rfl⟩

theorem ref_mix (n : Nat) (hn : n < 18446744073709551616) (w : World) : Calls Try.prog 13 #[.int .u64 n] w fun e w' => e = .returned (.int .u64 (mixN n)) ∧ w = w' := by
  go_enter Try.func13, Try.ntmps13
  go_wp2_with fail
  refine (against n 30 hn (by decide) w).mono ?_
  rintro e w' ⟨rfl, rfl⟩
  go_wp2_with fail
  have hA : IntKind.u64.wrap ((n ^^^ n / 2 ^ 30 : Nat) * 13787848793156543929) = ((mixA n : Nat) : Int) := by rw [IntKind.wrap_u64, show (2 : Nat) ^ 30 = 1073741824 from rfl]; unfold mixA; omega
  rw [hA]
  refine (against (mixA n) 27 (mixA_lt n) (by decide) w).mono ?_
  rintro e w' ⟨rfl, rfl⟩
  go_wp2_with fail
  have hB : IntKind.u64.wrap ((mixA n ^^^ mixA n / 2 ^ 27 : Nat) * 10723151780598845931) = ((mixB (mixA n) : Nat) : Int) := by rw [IntKind.wrap_u64, show (2 : Nat) ^ 27 = 134217728 from rfl]; unfold mixB; omega
  rw [hB]
  refine (against (mixB (mixA n)) 31 (mixB_lt _) (by decide) w).mono ?_
  rintro e w' ⟨rfl, rfl⟩
  go_wp2_with fail
  go_ret
  exact ⟨ret_int rfl, rfl⟩

theorem ref_key (n : Nat) (w : World) : Calls Try.prog 16 #[.int .u64 n] w fun e w' => e = .returned (.int .u64 (keyN n)) ∧ w = w' := by
  go_enter Try.func16, Try.ntmps16
  go_wp2_with fail
  have h : IntKind.u64.wrap ((n : Int) + 11400714819323198485) = (((n + 11400714819323198485) % 18446744073709551616 : Nat) : Int) := by rw [IntKind.wrap_u64]; omega
  rw [h]
  refine (ref_mix _ (Nat.mod_lt _ (by decide)) w).mono ?_
  rintro e w' ⟨rfl, rfl⟩
  go_wp2_with fail
  go_ret
  exact ⟨rfl, rfl⟩

end Go.Proofs.Ytfmngoniofoiiaa

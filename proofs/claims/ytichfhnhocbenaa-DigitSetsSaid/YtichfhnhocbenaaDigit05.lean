/- Layer 5's package digit: what its functions return, for every set and every number. -/
import Derived.Test.YtichfhnhocbenaaProg
import Derived.Test.YtichfhnhocbenaaWorld
import Derived.Test.YtichfhnhocbenaaBits05
import Derived.Laws.ShiftsVarLaws
import Derived.Lib.Hide
import Derived.LoopTactic
import Derived.BigQuiet
namespace Go.Proofs.Ytichfhnhocbenaa
open Go.RowKit

/-- Whether a number is a digit. -/
def digB (i : Int) : Bool := decide (0 ≤ i) && decide (i < 32)

theorem is_digit (i : Int) (w : World) : Calls Try.prog 16 #[.int .i64 i] w fun e w' => e = .returned (.bool (digB i)) ∧ w = w' := by
  go_enter Try.func16, Try.ntmps16
  by_cases h : 0 ≤ i
  · go_wp2_with fail
    go_ret
    exact ⟨ret_bool (by simp [digB, h]), rfl⟩
  · go_wp2_with fail
    go_ret
    exact ⟨ret_bool (by simp [digB]; omega), rfl⟩

theorem has_no (n : Nat) (i : Int) (hi : digB i = false) (w : World) : Calls Try.prog 7 #[.int .u32 n, .int .i64 i] w fun e w' => e = .returned (.bool false) ∧ w = w' := by
  go_enter Try.func7, Try.ntmps7
  go_wp2_with fail
  refine (is_digit i _).mono ?_
  rintro e w' ⟨rfl, rfl⟩
  rw [hi]
  go_wp2_with fail
  go_ret
  exact ⟨rfl, rfl⟩

theorem has_bit (n k : Nat) (hn : n < 4294967296) : (bits .and .u32 ((n : Int) / 2 ^ k) 1 == 1) = n.testBit k := by
  have e : (n : Int) / 2 ^ k = ((n / 2 ^ k : Nat) : Int) := by simp
  rw [e, and_1 _ (Nat.lt_of_le_of_lt (Nat.div_le_self _ _) hn), Nat.testBit_eq_decide_div_mod_eq, Bool.eq_iff_iff]
  simp only [beq_iff_eq, decide_eq_true_eq]
  omega

theorem has (n : Nat) (hn : n < 4294967296) (k : Nat) (hk : k < 32) (w : World) : Calls Try.prog 7 #[.int .u32 n, .int .i64 k] w fun e w' => e = .returned (.bool (n.testBit k)) ∧ w = w' := by
  go_enter Try.func7, Try.ntmps7
  go_wp2_with fail
  refine (is_digit k _).mono ?_
  rintro e w' ⟨rfl, rfl⟩
  rw [show digB k = true by simp [digB]; omega]
  go_wp2_with fail
  go_ret
  exact ⟨ret_bool (has_bit n k hn), rfl⟩

/-- The table that OnesCount32 reads, by its name. -/
theorem pop_fold : (⟨(([0, 1, 1, 2, 1, 2, 2, 3, 1, 2, 2, 3, 2, 3, 3, 4, 1, 2, 2, 3, 2, 3, 3, 4, 2, 3, 3, 4, 3, 4, 4, 5, 1, 2, 2, 3, 2, 3, 3, 4, 2, 3, 3, 4, 3, 4, 4, 5, 2, 3, 3, 4, 3, 4, 4, 5, 3, 4, 4, 5, 4, 5, 5, 6].append [1, 2, 2, 3, 2, 3, 3, 4, 2, 3, 3, 4, 3, 4, 4, 5, 2, 3, 3, 4, 3, 4, 4, 5, 3, 4, 4, 5, 4, 5, 5, 6, 2, 3, 3, 4, 3, 4, 4, 5, 3, 4, 4, 5, 4, 5, 5, 6, 3, 4, 4, 5, 4, 5, 5, 6, 4, 5, 5, 6, 5, 6, 6, 7]).append ([1, 2, 2, 3, 2, 3, 3, 4, 2, 3, 3, 4, 3, 4, 4, 5, 2, 3, 3, 4, 3, 4, 4, 5, 3, 4, 4, 5, 4, 5, 5, 6, 2, 3, 3, 4, 3, 4, 4, 5, 3, 4, 4, 5, 4, 5, 5, 6, 3, 4, 4, 5, 4, 5, 5, 6, 4, 5, 5, 6, 5, 6, 6, 7].append [2, 3, 3, 4, 3, 4, 4, 5, 3, 4, 4, 5, 4, 5, 5, 6, 3, 4, 4, 5, 4, 5, 5, 6, 4, 5, 5, 6, 5, 6, 6, 7, 3, 4, 4, 5, 4, 5, 5, 6, 4, 5, 5, 6, 5, 6, 6, 7, 4, 5, 5, 6, 5, 6, 6, 7, 5, 6, 6, 7, 6, 7, 7, 8])).toArray⟩ : ByteArray) = Lib.pop8tab := by kernel_rfl

theorem ones (n : Nat) (hn : n < 4294967296) (w : World) : Calls Try.prog 17 #[.int .u32 n] w fun e w' => e = .returned (.int .i64 (cnt n 32)) ∧ Gw w w' := by
  go_enter Try.func17, Try.ntmps17
  simp only [pop_fold]
  obtain ⟨a, ha⟩ : ∃ a, a = n / 16777216 := ⟨_, rfl⟩
  obtain ⟨b, hb⟩ : ∃ b, b = n / 65536 % 256 := ⟨_, rfl⟩
  obtain ⟨c, hc⟩ : ∃ c, c = n / 256 % 256 := ⟨_, rfl⟩
  obtain ⟨d, hd⟩ : ∃ d, d = n % 256 := ⟨_, rfl⟩
  have h0 : (n : Int) / 16777216 = (a : Int) := by omega
  have h1 : bits .and .u32 ((n : Int) / 65536) 255 = (b : Int) := by rw [hb]; exact and_255 (n / 65536) (by omega)
  have h2 : bits .and .u32 ((n : Int) / 256) 255 = (c : Int) := by rw [hc]; exact and_255 (n / 256) (by omega)
  have h3 : bits .and .u32 (n : Int) 255 = (d : Int) := by rw [hd]; exact and_255 n hn
  have e0 : (0 : Int) ≤ (a : Int) ∧ (a : Int) ≤ 255 := by omega
  have e1 : (0 : Int) ≤ (b : Int) ∧ (b : Int) ≤ 255 := by omega
  have e2 : (0 : Int) ≤ (c : Int) ∧ (c : Int) ≤ 255 := by omega
  have e3 : (0 : Int) ≤ (d : Int) ∧ (d : Int) ≤ 255 := by omega
  have p0 := pop8_cnt a (by omega)
  have p1 := pop8_cnt b (by omega)
  have p2 := pop8_cnt c (by omega)
  have p3 := pop8_cnt d (by omega)
  have HS := Lib.hid (show cnt n 32 = cnt a 8 + cnt b 8 + cnt c 8 + cnt d 8 by rw [ha, hb, hc, hd]; exact cnt_32 n)
  clear ha hb hc hd
  go_wp2_with fail
  go_quiet (fail)
  go_wp2_with fail
  go_ret
  have := HS.out
  have := cnt_le n 32
  exact ⟨ret_int (by omega), (Gw.refl w).drewN _⟩

theorem len (n : Nat) (hn : n < 4294967296) (w : World) : Calls Try.prog 11 #[.int .u32 n] w fun e w' => e = .returned (.int .i64 (cnt n 32)) ∧ Gw w w' := by
  go_enter Try.func11, Try.ntmps11
  go_wp2_with fail
  refine (ones n hn _).mono ?_
  rintro e w' ⟨rfl, g⟩
  go_wp2_with fail
  go_ret
  exact ⟨rfl, g⟩

theorem low_run (n k : Nat) (hn : n < 4294967296) (hk : k < 32) : bits .and .u32 (n : Int) ((2 ^ k - 1) % 4294967296) = ((n % 2 ^ k : Nat) : Int) := by
  rw [← and_low n k hn hk]
  have hp := pow_32 hk
  have h0 := Nat.two_pow_pos k
  have e : (2 : Int) ^ k = ((2 ^ k : Nat) : Int) := by simp
  congr 1
  rw [e]
  omega

/-- How many lesser ones are in it, for any number. -/
def placeN (n : Nat) (i : Int) : Nat := cnt n (min i.toNat 32)

theorem place (n : Nat) (hn : n < 4294967296) (i : Int) (w : World) : Calls Try.prog 8 #[.int .u32 n, .int .i64 i] w fun e w' => e = .returned (.int .i64 (placeN n i)) ∧ Gw w w' := by
  go_enter Try.func8, Try.ntmps8
  by_cases h0 : i < 0
  · go_wp2_with fail
    go_ret
    exact ⟨ret_int (by unfold placeN; rw [show i.toNat = 0 by omega]; rfl), Gw.refl _⟩
  by_cases h1 : 32 ≤ i
  · go_wp2_with fail
    refine (len n hn _).mono ?_
    rintro e w' ⟨rfl, g⟩
    go_wp2_with fail
    go_ret
    exact ⟨ret_int (by unfold placeN; rw [show min i.toNat 32 = 32 by omega]), g⟩
  · obtain ⟨k, rfl⟩ := Int.eq_ofNat_of_zero_le (show 0 ≤ i by omega)
    go_wp2_with fail
    rw [low_run n k hn (by omega)]
    refine (len (n % 2 ^ k) (Nat.lt_of_le_of_lt (Nat.mod_le _ _) hn) _).mono ?_
    rintro e w' ⟨rfl, g⟩
    rw [cnt_low n k (by omega)]
    go_wp2_with fail
    go_ret
    exact ⟨ret_int (by unfold placeN; rw [show min (k : Int).toNat 32 = k by omega]), g⟩

/-- The slice that begins at A holds these numbers. -/
def Ints (w : World) (A : Option Addr) (l : List Int) : Prop :=
  l = [] ∨ ∃ b o, A = some ⟨b, o, none⟩ ∧ b < w.heap.size ∧ ∀ (i : Nat) (x : Int), l[i]? = some x → w.cell? ⟨b, o + i, none⟩ = some (.int .i64 x)
theorem Ints.at {w : World} {A : Option Addr} {l : List Int} (h : Ints w A l) {i : Nat} {x : Int} (hi : l[i]? = some x) : ∃ b o, A = some ⟨b, o, none⟩ ∧ w.cell? ⟨b, o + i, none⟩ = some (.int .i64 x) := by
  rcases h with h | ⟨b, o, hA, _, hc⟩
  · subst h; simp at hi
  · exact ⟨b, o, hA, hc i x hi⟩
theorem Ints.below {w w' : World} {A : Option Addr} {l : List Int} (h : Ints w A l) (g : Below w.heap.size w w') : Ints w' A l := by
  rcases h with h | ⟨b, o, hA, hb, hc⟩
  · exact .inl h
  · exact .inr ⟨b, o, hA, Nat.lt_of_lt_of_le hb g.size, fun i x hx => (g.cell (p := ⟨b, _, none⟩) hb).trans (hc i x hx)⟩

theorem or_run (l : List Int) (x : Int) (h0 : 0 ≤ x) (h1 : x < 32) : bits .or .u32 (ofN l : Int) (2 ^ x.toNat % 4294967296) = (ofN (l ++ [x]) : Int) := by
  have hp := pow_32 (k := x.toNat) (by omega)
  have e : (2 : Int) ^ x.toNat = ((2 ^ x.toNat : Nat) : Int) := by simp
  have e2 : (2 : Int) ^ x.toNat % 4294967296 = ((2 ^ x.toNat : Nat) : Int) := by rw [e]; exact Int.emod_eq_of_lt (Int.natCast_nonneg _) (Int.ofNat_lt.2 hp)
  rw [e2, u32_or_nat _ _ (ofN_lt l) hp, ofN_snoc, if_pos ⟨h0, h1⟩]
theorem take_snoc {l : List Int} {j : Nat} {x : Int} (h : l[j]? = some x) : l.take (j + 1) = l.take j ++ [x] := by rw [List.take_add_one, h]; rfl

theorem of_run (A : Option Addr) (l : List Int) (c : Nat) (w : World) (hl : Ints w A l) (hn : l.length ≤ 4611686018427387904) :
    Calls Try.prog 18 #[.slice A l.length c] w fun e w' => e = .returned (.int .u32 (ofN l)) ∧ w = w' := by
  go_enter Try.func18, Try.ntmps18
  go_wp2_with fail
  go_loopw [3, 8] (fun s i wr => ∃ j : Nat, j ≤ l.length ∧ i = .int .i64 j ∧ s = .int .u32 (ofN (l.take j)) ∧ w = wr) (fun _ i _ => l.length - (intOf i).toNat)
  case atStart => exact ⟨0, Nat.zero_le _, rfl, rfl, rfl⟩
  case round =>
    obtain ⟨j, hj, rfl, rfl, rfl⟩ := hrel
    by_cases h1 : j < l.length
    · obtain ⟨x, hx⟩ : ∃ x, l[j]? = some x := ⟨_, List.getElem?_eq_getElem h1⟩
      obtain ⟨b, o, rfl, hc⟩ := hl.at hx
      have HX := Lib.hid hx
      clear hx
      obtain ⟨s, hs⟩ : ∃ s, s = ofN (l.take j) := ⟨_, rfl⟩
      rw [← hs]
      have HS := Lib.hid hs
      clear hs
      go_wp2_with fail
      refine (is_digit x _).mono ?_
      rintro e w' ⟨rfl, rfl⟩
      cases hd : digB x
      · go_wp2_with fail
        go_roundw
        case rel => exact ⟨j + 1, by omega, by go_num, by rw [take_snoc HX.out, ofN_snoc, HS.out, if_neg (by simp [digB] at hd; omega), Nat.or_zero], trivial⟩
        case measure => simp [intOf]; omega
      · have hd0 : 0 ≤ x ∧ x < 32 := by simpa [digB] using hd
        obtain ⟨k, rfl⟩ := Int.eq_ofNat_of_zero_le hd0.1
        go_wp2_with fail
        go_roundw
        case rel => exact ⟨j + 1, by omega, by go_num, by rw [take_snoc HX.out, HS.out, ← or_run _ _ hd0.1 hd0.2]; simp, trivial⟩
        case measure => simp [intOf]; omega
    · obtain rfl : j = l.length := by omega
      rw [List.take_length]
      go_wp2_with fail
      go_ret
      exact ⟨rfl, rfl⟩

theorem with_run (n : Nat) (hn : n < 4294967296) (A : Option Addr) (l : List Int) (c : Nat) (w : World) (hl : Ints w A l) (hlen : l.length ≤ 4611686018427387904) :
    Calls Try.prog 12 #[.int .u32 n, .slice A l.length c] w fun e w' => e = .returned (.int .u32 (n ||| ofN l : Nat)) ∧ w = w' := by
  go_enter Try.func12, Try.ntmps12
  go_wp2_with fail
  refine (of_run A l c _ hl hlen).mono ?_
  rintro e w' ⟨rfl, rfl⟩
  go_wp2_with fail
  go_ret
  exact ⟨ret_int (u32_or_nat n _ hn (ofN_lt l)), rfl⟩

theorem without_run (n : Nat) (hn : n < 4294967296) (A : Option Addr) (l : List Int) (c : Nat) (w : World) (hl : Ints w A l) (hlen : l.length ≤ 4611686018427387904) :
    Calls Try.prog 13 #[.int .u32 n, .slice A l.length c] w fun e w' => e = .returned (.int .u32 (n &&& (4294967295 - ofN l) : Nat)) ∧ w = w' := by
  go_enter Try.func13, Try.ntmps13
  go_wp2_with fail
  refine (of_run A l c _ hl hlen).mono ?_
  rintro e w' ⟨rfl, rfl⟩
  go_wp2_with fail
  go_ret
  exact ⟨ret_int (u32_andNot_nat n _ hn (ofN_lt l)), rfl⟩

theorem at_run (n : Nat) (k : Nat) (hk : k < 13) (w : World) : Calls Try.prog 14 #[.int .u64 n, .int .i64 k] w fun e w' => e = .returned (.int .i64 (n / 32 ^ k % 32 : Nat)) ∧ w = w' := by
  go_enter Try.func14, Try.ntmps14
  go_wp2_with fail
  go_ret
  have e1 : (n : Int) / 2 ^ (5 * k) = ((n / 32 ^ k : Nat) : Int) := by rw [show (32 : Nat) ^ k = 2 ^ (5 * k) by rw [Nat.pow_mul]]; simp
  obtain ⟨q, hq⟩ : ∃ q, q = n / 32 ^ k := ⟨_, rfl⟩
  exact ⟨ret_int (by rw [e1, ← hq, Int.tmod_eq_emod_of_nonneg (by omega)]; unfold wrap64; omega), rfl⟩

theorem levels_run (n : Nat) (hn : n ≤ 9223372036854775807) (h0 : 0 < n) (w : World) : Calls Try.prog 15 #[.int .i64 n] w fun e w' => (∃ h : Nat, e = .returned (.int .i64 h) ∧ n ≤ 32 ^ h ∧ ∀ g, g < h → 32 ^ g < n) ∧ w = w' := by
  go_enter Try.func15, Try.ntmps15
  go_wp2_with fail
  go_loopw [3, 4] (fun h last wr => ∃ j : Nat, h = .int .i64 j ∧ last = .int .i64 ((n - 1) / 32 ^ j : Nat) ∧ (∀ g, g < j → 32 ^ g < n) ∧ w = wr) (fun _ last _ => (intOf last).toNat)
  case atStart => exact ⟨0, rfl, by simp; omega, by simp, rfl⟩
  case round =>
    obtain ⟨j, rfl, rfl, hg, rfl⟩ := hrel
    obtain ⟨q, hq⟩ : ∃ q, q = (n - 1) / 32 ^ j := ⟨_, rfl⟩
    rw [← hq]
    have hqn : q ≤ n := by rw [hq]; exact Nat.le_trans (Nat.div_le_self _ _) (Nat.sub_le _ _)
    have HG := Lib.hid hg
    have HQ := Lib.hid hq
    clear hg hq
    by_cases h1 : 0 < q
    · have hj : j < 64 := Nat.lt_of_not_le fun h64 => by
        have h63 := HG.out 63 (by omega)
        have : 9223372036854775807 < 32 ^ 63 := by decide
        omega
      go_wp2_with fail
      go_roundw
      case rel =>
        refine ⟨j + 1, by go_num, by rw [Nat.pow_succ, ← Nat.div_div_eq_div_mul, ← HQ.out]; simp, fun g hgj => ?_, trivial⟩
        rcases Nat.lt_succ_iff_lt_or_eq.1 hgj with h | rfl
        · exact HG.out g h
        · have h2 := HQ.out
          have h3 : 32 ^ g ≤ n - 1 := by rw [h2] at h1; exact (Nat.div_pos_iff.1 h1).2
          omega
      case measure => simp [intOf]; omega
    · obtain rfl : q = 0 := by omega
      go_wp2_with fail
      go_ret
      have h2 : n - 1 < 32 ^ j := Nat.lt_of_not_le fun h => by
        have := Nat.div_pos h (Nat.pow_pos (n := j) (show 0 < 32 by decide))
        have := HQ.out
        omega
      exact ⟨⟨j, rfl, by omega, HG.out⟩, rfl⟩

end Go.Proofs.Ytichfhnhocbenaa

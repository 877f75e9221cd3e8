/- Several texts in one. -/
import Derived.Laws.BitsAllLaws
import Derived.Lib.BitFns
import Derived.Test.YtfiledbjbpkleaaGreatProg
import Derived.Test.YtfiledbjbpkleaaGreatMs01
import Derived.Laws.ShiftsVarLaws
import Derived.Lib.Hide
import Derived.LoopTactic
import Derived.BigQuiet
import Derived.Test.YtfiledbjbpkleaaGreatMs02
import Derived.Deep.LoopGhost
import Derived.Deep.Cut
namespace Go.Proofs.YtfiledbjbpkleaaGreat

def cnt (n : Nat) : Nat → Nat
  | 0 => 0
  | i + 1 => cnt n i + (n.testBit i).toNat

theorem cnt_le (n : Nat) : ∀ i, cnt n i ≤ i
  | 0 => Nat.le_refl _
  | i + 1 => by have := cnt_le n i; have := Bool.toNat_le (n.testBit i); unfold cnt; omega
theorem cnt_congr {m n : Nat} : ∀ i, (∀ k, k < i → m.testBit k = n.testBit k) → cnt m i = cnt n i
  | 0, _ => rfl
  | i + 1, h => by unfold cnt; rw [cnt_congr i fun k hk => h k (by omega), h i (by omega)]
theorem cnt_add (n a : Nat) : ∀ b, cnt n (a + b) = cnt n a + cnt (n / 2 ^ a) b
  | 0 => by simp [cnt]
  | b + 1 => by
    have : (n / 2 ^ a).testBit b = n.testBit (a + b) := by rw [Nat.testBit_div_two_pow, Nat.add_comm]
    rw [← Nat.add_assoc, show cnt n (a + b + 1) = cnt n (a + b) + (n.testBit (a + b)).toNat from rfl, show cnt (n / 2 ^ a) (b + 1) = cnt (n / 2 ^ a) b + ((n / 2 ^ a).testBit b).toNat from rfl, cnt_add n a b, this]
    omega
theorem cnt_zero : ∀ i, cnt 0 i = 0
  | 0 => rfl
  | i + 1 => by unfold cnt; rw [cnt_zero i]; simp
theorem cnt_small {n a : Nat} (h : n < 2 ^ a) (b : Nat) : cnt n (a + b) = cnt n a := by
  rw [cnt_add, Nat.div_eq_of_lt h, cnt_zero]; rfl
theorem cnt_mod (n a : Nat) : cnt (n % 2 ^ a) a = cnt n a :=
  cnt_congr a fun k hk => by rw [Nat.testBit_mod_two_pow]; simp [hk]
theorem pop_cnt : ∀ f n, Lib.popAux f n = cnt n f
  | 0, _ => rfl
  | f + 1, n => by
    rw [Lib.popAux, pop_cnt f, Nat.add_comm f 1, cnt_add n 1 f]
    have : cnt n 1 = n % 2 := by
      unfold cnt cnt
      rw [Nat.testBit_zero]
      have : n % 2 = 0 ∨ n % 2 = 1 := by omega
      rcases this with h | h <;> simp [h]
    rw [this]
theorem pop8_cnt (x : Nat) (h : x < 256) : Lib.pop8 (x : Int) = (cnt x 8 : Nat) := by
  have e := Lib.pop8_eq ⟨x, h⟩
  simp only at e
  rw [e, Lib.onesCount, pop_cnt, show (64 : Nat) = 8 + 56 from rfl, cnt_small (a := 8) (by omega)]
theorem cnt_32 (n : Nat) : cnt n 32 = cnt (n / 16777216) 8 + cnt (n / 65536 % 256) 8 + cnt (n / 256 % 256) 8 + cnt (n % 256) 8 := by
  have h1 : cnt (n % 256) 8 = cnt n 8 := cnt_mod n 8
  have h2 : cnt (n / 256 % 256) 8 = cnt (n / 256) 8 := cnt_mod _ 8
  have h3 : cnt (n / 65536 % 256) 8 = cnt (n / 65536) 8 := cnt_mod _ 8
  rw [h1, h2, h3, show (32 : Nat) = 8 + (8 + (8 + 8)) from rfl, cnt_add n 8, cnt_add _ 8, cnt_add _ 8, Nat.div_div_eq_div_mul, Nat.div_div_eq_div_mul]
  show cnt n 8 + (cnt (n / 256) 8 + (cnt (n / 65536) 8 + cnt (n / 16777216) 8)) = _
  omega

theorem and_255 (x : Nat) (h : x < 4294967296) : bits .and .u32 (x : Int) 255 = ((x % 256 : Nat) : Int) := by
  have := u32_and_nat x 255 h (by decide)
  rw [nat_mask8] at this
  exact this
theorem and_1 (x : Nat) (h : x < 4294967296) : bits .and .u32 (x : Int) 1 = ((x % 2 : Nat) : Int) := by
  have := u32_and_nat x 1 h (by decide)
  rw [nat_mask1] at this
  exact this
theorem and_low (n i : Nat) (h : n < 4294967296) (hi : i < 32) : bits .and .u32 (n : Int) ((2 ^ i - 1 : Nat) : Int) = ((n % 2 ^ i : Nat) : Int) := by
  have hp : 2 ^ i ≤ 2 ^ 31 := Nat.pow_le_pow_right (by decide) (by omega)
  rw [u32_and_nat n _ h (by omega), Nat.and_two_pow_sub_one_eq_mod]
theorem cnt_low (n i : Nat) (hi : i ≤ 32) : cnt (n % 2 ^ i) 32 = cnt n i := by
  obtain ⟨j, hj⟩ : ∃ j, 32 = i + j := ⟨32 - i, by omega⟩
  rw [hj, cnt_small (Nat.mod_lt _ (Nat.two_pow_pos i)), cnt_mod]

def ofN : List Int → Nat
  | [] => 0
  | x :: l => (if 0 ≤ x ∧ x < 32 then 2 ^ x.toNat else 0) ||| ofN l
theorem pow_32 {k : Nat} (h : k < 32) : 2 ^ k < 4294967296 := Nat.pow_lt_pow_right (m := k) (n := 32) (by decide) h
theorem ofN_lt : ∀ l, ofN l < 4294967296
  | [] => by decide
  | x :: l => by
    unfold ofN
    refine Nat.or_lt_two_pow (n := 32) ?_ (ofN_lt l)
    split
    · exact pow_32 (by omega)
    · decide
theorem ofN_snoc : ∀ l x, ofN (l ++ [x]) = ofN l ||| (if 0 ≤ x ∧ x < 32 then 2 ^ x.toNat else 0)
  | [], x => by simp [ofN]
  | y :: l, x => by rw [List.cons_append]; unfold ofN; rw [ofN_snoc l x, Nat.or_assoc]
end Go.Proofs.YtfiledbjbpkleaaGreat

namespace Go.Proofs.YtfiledbjbpkleaaGreat
set_option maxRecDepth 100000
open Go.RowKit

def digB (i : Int) : Bool := decide (0 ≤ i) && decide (i < 32)

theorem is_digit (i : Int) (w : World) : Calls Tryz.prog 228 #[.int .i64 i] w fun e w' => e = .returned (.bool (digB i)) ∧ w = w' := by
  go_enter Tryz.func228, Tryz.ntmps228
  by_cases h : 0 ≤ i
  · go_wp2_with fail
    go_ret
    exact ⟨ret_bool (by simp [digB, h]), rfl⟩
  · go_wp2_with fail
    go_ret
    exact ⟨ret_bool (by simp [digB]; omega), rfl⟩

theorem has_bit (n k : Nat) (hn : n < 4294967296) : (bits .and .u32 ((n : Int) / 2 ^ k) 1 == 1) = n.testBit k := by
  have e : (n : Int) / 2 ^ k = ((n / 2 ^ k : Nat) : Int) := by simp
  rw [e, and_1 _ (Nat.lt_of_le_of_lt (Nat.div_le_self _ _) hn), Nat.testBit_eq_decide_div_mod_eq, Bool.eq_iff_iff]
  simp only [beq_iff_eq, decide_eq_true_eq]
  omega

theorem has (n : Nat) (hn : n < 4294967296) (k : Nat) (hk : k < 32) (w : World) : Calls Tryz.prog 198 #[.int .u32 n, .int .i64 k] w fun e w' => e = .returned (.bool (n.testBit k)) ∧ w = w' := by
  go_enter Tryz.func198, Tryz.ntmps198
  go_wp2_with fail
  refine (is_digit k _).mono ?_
  rintro e w' ⟨rfl, rfl⟩
  rw [show digB k = true by simp [digB]; omega]
  go_wp2_with fail
  go_ret
  exact ⟨ret_bool (has_bit n k hn), rfl⟩

theorem pop_fold : (⟨(([0, 1, 1, 2, 1, 2, 2, 3, 1, 2, 2, 3, 2, 3, 3, 4, 1, 2, 2, 3, 2, 3, 3, 4, 2, 3, 3, 4, 3, 4, 4, 5, 1, 2, 2, 3, 2, 3, 3, 4, 2, 3, 3, 4, 3, 4, 4, 5, 2, 3, 3, 4, 3, 4, 4, 5, 3, 4, 4, 5, 4, 5, 5, 6].append [1, 2, 2, 3, 2, 3, 3, 4, 2, 3, 3, 4, 3, 4, 4, 5, 2, 3, 3, 4, 3, 4, 4, 5, 3, 4, 4, 5, 4, 5, 5, 6, 2, 3, 3, 4, 3, 4, 4, 5, 3, 4, 4, 5, 4, 5, 5, 6, 3, 4, 4, 5, 4, 5, 5, 6, 4, 5, 5, 6, 5, 6, 6, 7]).append ([1, 2, 2, 3, 2, 3, 3, 4, 2, 3, 3, 4, 3, 4, 4, 5, 2, 3, 3, 4, 3, 4, 4, 5, 3, 4, 4, 5, 4, 5, 5, 6, 2, 3, 3, 4, 3, 4, 4, 5, 3, 4, 4, 5, 4, 5, 5, 6, 3, 4, 4, 5, 4, 5, 5, 6, 4, 5, 5, 6, 5, 6, 6, 7].append [2, 3, 3, 4, 3, 4, 4, 5, 3, 4, 4, 5, 4, 5, 5, 6, 3, 4, 4, 5, 4, 5, 5, 6, 4, 5, 5, 6, 5, 6, 6, 7, 3, 4, 4, 5, 4, 5, 5, 6, 4, 5, 5, 6, 5, 6, 6, 7, 4, 5, 5, 6, 5, 6, 6, 7, 5, 6, 6, 7, 6, 7, 7, 8])).toArray⟩ : ByteArray) = Lib.pop8tab := by kernel_rfl

theorem ones (n : Nat) (hn : n < 4294967296) (w : World) : Calls Tryz.prog 240 #[.int .u32 n] w fun e w' => e = .returned (.int .i64 (cnt n 32)) ∧ Gw w w' := by
  go_enter Tryz.func240, Tryz.ntmps240
  simp only [pop_fold]
  obtain ⟨a, ha⟩ : ∃ a, a = n / 16777216 := ⟨_, rfl⟩
  obtain ⟨b, hb⟩ : ∃ b, b = n / 65536 % 256 := ⟨_, rfl⟩
  obtain ⟨c, hc⟩ : ∃ c, c = n / 256 % 256 := ⟨_, rfl⟩
  obtain ⟨d, hd⟩ : ∃ d, d = n % 256 := ⟨_, rfl⟩
  have h0 : (n : Int) / 16777216 = (a : Int) := by omega
  have h1 : bits .and .u32 ((n : Int) / 65536) 255 = (b : Int) := by rw [hb]; exact and_255 (n / 65536) (by omega)
  have h2 : bits .and .u32 ((n : Int) / 256) 255 = (c : Int) := by rw [hc]; exact and_255 (n / 256) (by omega)
  have h3 : bits .and .u32 (n : Int) 255 = (d : Int) := by rw [hd]; exact and_255 n hn
  have e0 : (0 : Int) ≤ (a : Int) ∧ (a : Int) ≤ 255 := by omega
  have e1 : (0 : Int) ≤ (b : Int) ∧ (b : Int) ≤ 255 := by omega
  have e2 : (0 : Int) ≤ (c : Int) ∧ (c : Int) ≤ 255 := by omega
  have e3 : (0 : Int) ≤ (d : Int) ∧ (d : Int) ≤ 255 := by omega
  have p0 := pop8_cnt a (by omega)
  have p1 := pop8_cnt b (by omega)
  have p2 := pop8_cnt c (by omega)
  have p3 := pop8_cnt d (by omega)
  have HS := Lib.hid (show cnt n 32 = cnt a 8 + cnt b 8 + cnt c 8 + cnt d 8 by rw [ha, hb, hc, hd]; exact cnt_32 n)
  clear ha hb hc hd
  go_wp2_with fail
  go_quiet (fail)
  go_wp2_with fail
  go_ret
  have := HS.out
  have := cnt_le n 32
  exact ⟨ret_int (by omega), (Gw.refl w).drewN _⟩

theorem len (n : Nat) (hn : n < 4294967296) (w : World) : Calls Tryz.prog 227 #[.int .u32 n] w fun e w' => e = .returned (.int .i64 (cnt n 32)) ∧ Gw w w' := by
  go_enter Tryz.func227, Tryz.ntmps227
  go_wp2_with fail
  refine (ones n hn _).mono ?_
  rintro e w' ⟨rfl, g⟩
  go_wp2_with fail
  go_ret
  exact ⟨rfl, g⟩

theorem low_run (n k : Nat) (hn : n < 4294967296) (hk : k < 32) : bits .and .u32 (n : Int) ((2 ^ k - 1) % 4294967296) = ((n % 2 ^ k : Nat) : Int) := by
  rw [← and_low n k hn hk]
  have hp := pow_32 hk
  have h0 := Nat.two_pow_pos k
  have e : (2 : Int) ^ k = ((2 ^ k : Nat) : Int) := by simp
  congr 1
  rw [e]
  omega

def placeN (n : Nat) (i : Int) : Nat := cnt n (min i.toNat 32)

theorem place (n : Nat) (hn : n < 4294967296) (i : Int) (w : World) : Calls Tryz.prog 199 #[.int .u32 n, .int .i64 i] w fun e w' => e = .returned (.int .i64 (placeN n i)) ∧ Gw w w' := by
  go_enter Tryz.func199, Tryz.ntmps199
  by_cases h0 : i < 0
  · go_wp2_with fail
    go_ret
    exact ⟨ret_int (by unfold placeN; rw [show i.toNat = 0 by omega]; rfl), Gw.refl _⟩
  by_cases h1 : 32 ≤ i
  · go_wp2_with fail
    refine (len n hn _).mono ?_
    rintro e w' ⟨rfl, g⟩
    go_wp2_with fail
    go_ret
    exact ⟨ret_int (by unfold placeN; rw [show min i.toNat 32 = 32 by omega]), g⟩
  · obtain ⟨k, rfl⟩ := Int.eq_ofNat_of_zero_le (show 0 ≤ i by omega)
    go_wp2_with fail
    rw [low_run n k hn (by omega)]
    refine (len (n % 2 ^ k) (Nat.lt_of_le_of_lt (Nat.mod_le _ _) hn) _).mono ?_
    rintro e w' ⟨rfl, g⟩
    rw [cnt_low n k (by omega)]
    go_wp2_with fail
    go_ret
    exact ⟨ret_int (by unfold placeN; rw [show min (k : Int).toNat 32 = k by omega]), g⟩

def Ints (w : World) (A : Option Addr) (l : List Int) : Prop :=
  l = [] ∨ ∃ b o, A = some ⟨b, o, none⟩ ∧ b < w.heap.size ∧ ∀ (i : Nat) (x : Int), l[i]? = some x → w.cell? ⟨b, o + i, none⟩ = some (.int .i64 x)
theorem Ints.at {w : World} {A : Option Addr} {l : List Int} (h : Ints w A l) {i : Nat} {x : Int} (hi : l[i]? = some x) : ∃ b o, A = some ⟨b, o, none⟩ ∧ w.cell? ⟨b, o + i, none⟩ = some (.int .i64 x) := by
  rcases h with h | ⟨b, o, hA, _, hc⟩
  · subst h; simp at hi
  · exact ⟨b, o, hA, hc i x hi⟩
theorem Ints.below {w w' : World} {A : Option Addr} {l : List Int} (h : Ints w A l) (g : Below w.heap.size w w') : Ints w' A l := by
  rcases h with h | ⟨b, o, hA, hb, hc⟩
  · exact .inl h
  · exact .inr ⟨b, o, hA, Nat.lt_of_lt_of_le hb g.size, fun i x hx => (g.cell (p := ⟨b, _, none⟩) hb).trans (hc i x hx)⟩

theorem or_run (l : List Int) (x : Int) (h0 : 0 ≤ x) (h1 : x < 32) : bits .or .u32 (ofN l : Int) (2 ^ x.toNat % 4294967296) = (ofN (l ++ [x]) : Int) := by
  have hp := pow_32 (k := x.toNat) (by omega)
  have e : (2 : Int) ^ x.toNat = ((2 ^ x.toNat : Nat) : Int) := by simp
  have e2 : (2 : Int) ^ x.toNat % 4294967296 = ((2 ^ x.toNat : Nat) : Int) := by rw [e]; exact Int.emod_eq_of_lt (Int.natCast_nonneg _) (Int.ofNat_lt.2 hp)
  rw [e2, u32_or_nat _ _ (ofN_lt l) hp, ofN_snoc, if_pos ⟨h0, h1⟩]
theorem take_snoc {l : List Int} {j : Nat} {x : Int} (h : l[j]? = some x) : l.take (j + 1) = l.take j ++ [x] := by rw [List.take_add_one, h]; rfl

theorem of_run (A : Option Addr) (l : List Int) (c : Nat) (w : World) (hl : Ints w A l) (hn : l.length ≤ 4611686018427387904) :
    Calls Tryz.prog 236 #[.slice A l.length c] w fun e w' => e = .returned (.int .u32 (ofN l)) ∧ w = w' := by
  go_enter Tryz.func236, Tryz.ntmps236
  go_wp2_with fail
  go_loopw [3, 8] (fun s i wr => ∃ j : Nat, j ≤ l.length ∧ i = .int .i64 j ∧ s = .int .u32 (ofN (l.take j)) ∧ w = wr) (fun _ i _ => l.length - (intOf i).toNat)
  case atStart => exact ⟨0, Nat.zero_le _, rfl, rfl, rfl⟩
  case round =>
    obtain ⟨j, hj, rfl, rfl, rfl⟩ := hrel
    by_cases h1 : j < l.length
    · obtain ⟨x, hx⟩ : ∃ x, l[j]? = some x := ⟨_, List.getElem?_eq_getElem h1⟩
      obtain ⟨b, o, rfl, hc⟩ := hl.at hx
      have HX := Lib.hid hx
      clear hx
      obtain ⟨s, hs⟩ : ∃ s, s = ofN (l.take j) := ⟨_, rfl⟩
      rw [← hs]
      have HS := Lib.hid hs
      clear hs
      go_wp2_with fail
      refine (is_digit x _).mono ?_
      rintro e w' ⟨rfl, rfl⟩
      cases hd : digB x
      · go_wp2_with fail
        go_roundw
        case rel => exact ⟨j + 1, by omega, by go_num, by rw [take_snoc HX.out, ofN_snoc, HS.out, if_neg (by simp [digB] at hd; omega), Nat.or_zero], trivial⟩
        case measure => simp [intOf]; omega
      · have hd0 : 0 ≤ x ∧ x < 32 := by simpa [digB] using hd
        obtain ⟨k, rfl⟩ := Int.eq_ofNat_of_zero_le hd0.1
        go_wp2_with fail
        go_roundw
        case rel => exact ⟨j + 1, by omega, by go_num, by rw [take_snoc HX.out, HS.out, ← or_run _ _ hd0.1 hd0.2]; simp, trivial⟩
        case measure => simp [intOf]; omega
    · obtain rfl : j = l.length := by omega
      rw [List.take_length]
      go_wp2_with fail
      go_ret
      exact ⟨rfl, rfl⟩

theorem with_run (n : Nat) (hn : n < 4294967296) (A : Option Addr) (l : List Int) (c : Nat) (w : World) (hl : Ints w A l) (hlen : l.length ≤ 4611686018427387904) :
    Calls Tryz.prog 209 #[.int .u32 n, .slice A l.length c] w fun e w' => e = .returned (.int .u32 (n ||| ofN l : Nat)) ∧ w = w' := by
  go_enter Tryz.func209, Tryz.ntmps209
  go_wp2_with fail
  refine (of_run A l c _ hl hlen).mono ?_
  rintro e w' ⟨rfl, rfl⟩
  go_wp2_with fail
  go_ret
  exact ⟨ret_int (u32_or_nat n _ hn (ofN_lt l)), rfl⟩

theorem at_run (n : Nat) (k : Nat) (hk : k < 13) (w : World) : Calls Tryz.prog 165 #[.int .u64 n, .int .i64 k] w fun e w' => e = .returned (.int .i64 (n / 32 ^ k % 32 : Nat)) ∧ w = w' := by
  go_enter Tryz.func165, Tryz.ntmps165
  go_wp2_with fail
  go_ret
  have e1 : (n : Int) / 2 ^ (5 * k) = ((n / 32 ^ k : Nat) : Int) := by rw [show (32 : Nat) ^ k = 2 ^ (5 * k) by rw [Nat.pow_mul]]; simp
  obtain ⟨q, hq⟩ : ∃ q, q = n / 32 ^ k := ⟨_, rfl⟩
  exact ⟨ret_int (by rw [e1, ← hq, Int.tmod_eq_emod_of_nonneg (by omega)]; unfold wrap64; omega), rfl⟩


end Go.Proofs.YtfiledbjbpkleaaGreat

namespace Go.Proofs.YtfiledbjbpkleaaGreat
set_option maxRecDepth 100000
open Go.RowKit

theorem dg_run (g j : Nat) (hj : j < 13) (w : World) : Calls Tryz.prog 165 #[.int .u64 g, .int .i64 j] w fun e w' => e = .returned (.int .i64 (dg g j : Nat)) ∧ w = w' := at_run g j hj w

set_option maxHeartbeats 800000 in
theorem vparting (g h : Nat) (w : World) : Calls Tryz.prog 148 #[.int .u64 g, .int .u64 h] w fun e w' => e = .returned (.int .i64 (pt g h : Nat)) ∧ w = w' := by
  go_enter Tryz.func148, Tryz.ntmps148
  go_wp2_with fail
  go_loopw [5] (fun lev wr => ∃ j : Nat, lev = .int .i64 j ∧ j ≤ 13 ∧ (∀ i, i < j → dg g i = dg h i) ∧ w = wr) (fun lev _ => 13 - (intOf lev).toNat)
  case atStart => exact ⟨0, rfl, by omega, fun i hi => by omega, rfl⟩
  case round =>
    obtain ⟨j, rfl, hj, hall, rfl⟩ := hrel
    have HA := Lib.hid hall
    clear hall
    by_cases h13 : j < 13
    · have h13' : (j : Int) < 13 := by omega
      have HG := Lib.hid (dg_run g j h13)
      have HH := Lib.hid (dg_run h j h13)
      by_cases e : dg g j = dg h j
      · go_wp2_with (go_at_call 165; (first | (with_reducible_and_instances refine (HG.out _).mono ?_) | (with_reducible_and_instances refine (HH.out _).mono ?_)); rintro x w' ⟨rfl, rfl⟩)
        go_roundw
        case rel => exact ⟨j + 1, by go_num, by omega, fun i hi => by
          by_cases ei : i = j
          · rw [ei]; exact e
          · exact HA.out i (by omega), trivial⟩
        case measure => simp [intOf]; omega
      · have e' : ((dg g j : Int) == (dg h j : Int)) = false := by
          rw [beq_eq_false_iff_ne]; omega
        have hp : pt g h = j := pt_uniq hj HA.out (fun _ => e)
        have HP := Lib.hid hp
        clear hp
        go_wp2_with (go_at_call 165; (first | (with_reducible_and_instances refine (HG.out _).mono ?_) | (with_reducible_and_instances refine (HH.out _).mono ?_)); rintro x w' ⟨rfl, rfl⟩)
        go_ret
        exact ⟨by rw [HP.out]; rfl, rfl⟩
    · obtain rfl : j = 13 := by omega
      have HP := Lib.hid (show pt g h = 13 from pt_uniq (Nat.le_refl _) HA.out (fun h => absurd h (Nat.lt_irrefl _)))
      go_wp2_with fail
      go_ret
      exact ⟨by rw [HP.out]; rfl, rfl⟩

def Asks (w : World) (f : FuncId) (caps : Array Value) (n : Nat) (R : Nat → Value) : Prop :=
  (∀ (args : Array Value) (W : World), (callFunc f args).run Tryz.prog W = .ok (.enter f args) W) ∧ ∀ j, j < n → ∀ W, Below w.heap.size w W → Calls Tryz.prog f (#[.int .i64 (j : Nat)] ++ caps) W fun e W' => e = .returned (R j) ∧ Below W.heap.size W W'

theorem half (i j : Nat) : ((i : Int) + j) / 2 = (((i + j) / 2 : Nat) : Int) := by omega

theorem vSearch (f : FuncId) (caps : Array Value) (n t : Nat) (R : Nat → Bool) (w : World) (ha : Asks w f caps n (fun j => .bool (R j))) (hn : n ≤ 4611686018427387904) (ht : t ≤ n) (h0 : ∀ j, j < t → R j = false) (h1 : ∀ j, t ≤ j → j < n → R j = true) :
    Calls Tryz.prog 180 #[.int .i64 (n : Nat), .func (.func f) #[] caps] w fun e w' => e = .returned (.int .i64 (t : Nat)) ∧ Below w.heap.size w w' := by
  have HA := Lib.hid ha.2
  have hfe := ha.1
  clear ha
  go_enter Tryz.func180, Tryz.ntmps180
  go_wp2_with fail
  go_loopw [5, 6] (fun i j wr => ∃ a b : Nat, i = .int .i64 (a : Nat) ∧ j = .int .i64 (b : Nat) ∧ a ≤ t ∧ t ≤ b ∧ b ≤ n ∧ Below w.heap.size w wr) (fun i j _ => (intOf j).toNat - (intOf i).toNat)
  case atStart => exact ⟨0, n, rfl, rfl, Nat.zero_le _, ht, Nat.le_refl _, Below.refl _ _⟩
  case round =>
    obtain ⟨a, b, rfl, rfl, ha, hb, hbn, hw⟩ := hrel
    have HW := Lib.hid hw
    clear hw
    by_cases hab : a < b
    · have hab' : (a : Int) < (b : Int) := by omega
      have hh := half a b
      obtain ⟨m, hm⟩ : ∃ m, m = (a + b) / 2 := ⟨_, rfl⟩
      rw [← hm] at hh
      have hm1 : a ≤ m ∧ m < b := by omega
      clear hm
      have HC := Lib.hid (HA.out m (by omega) _ HW.out)
      go_upto_region 4 with fail
      clear hh
      cases e : R m with
      | true =>
        rw [e] at HC
        go_wp2_with (refine HC.out.mono ?_; rintro x w' ⟨rfl, hb'⟩; have HB := Lib.hid (HW.out.trans (hb'.mono HW.out.size)); clear hb')
        go_roundw
        case rel => exact ⟨a, m, rfl, rfl, ha, Nat.le_of_not_lt fun h => (by rw [h0 m h] at e; cases e), by omega, HB.out⟩
        case measure => simp [intOf]; omega
      | false =>
        rw [e] at HC
        go_wp2_with (refine HC.out.mono ?_; rintro x w' ⟨rfl, hb'⟩; have HB := Lib.hid (HW.out.trans (hb'.mono HW.out.size)); clear hb')
        go_roundw
        case rel => exact ⟨m + 1, b, by go_num, rfl, Nat.lt_of_not_le fun h => (by rw [h1 m h (by omega)] at e; cases e), hb, hbn, HB.out⟩
        case measure => simp [intOf]; omega
    · obtain rfl : a = t := by omega
      have hab' : ¬ (a : Int) < (b : Int) := by omega
      go_wp2_with fail
      go_ret
      exact ⟨rfl, HW.out⟩

theorem vFind (f : FuncId) (caps : Array Value) (n t : Nat) (C : Nat → Int) (w : World) (ha : Asks w f caps n (fun j => .int .i64 (C j))) (hn : n ≤ 4611686018427387904) (ht : t ≤ n) (h0 : ∀ j, j < t → 0 < C j) (h1 : ∀ j, t ≤ j → j < n → C j ≤ 0) :
    Calls Tryz.prog 200 #[.int .i64 (n : Nat), .func (.func f) #[] caps] w fun e w' => e = .returned (.tuple #[.int .i64 (t : Nat), .bool (decide (t < n ∧ C t = 0))]) ∧ Below w.heap.size w w' := by
  have HA := Lib.hid ha.2
  have hfe := ha.1
  clear ha
  go_enter Tryz.func200, Tryz.ntmps200
  go_wp2_with fail
  go_loopw [4, 6] (fun i j wr => ∃ a b : Nat, i = .int .i64 (a : Nat) ∧ j = .int .i64 (b : Nat) ∧ a ≤ t ∧ t ≤ b ∧ b ≤ n ∧ Below w.heap.size w wr) (fun i j _ => (intOf j).toNat - (intOf i).toNat)
  case atStart => exact ⟨0, n, rfl, rfl, Nat.zero_le _, ht, Nat.le_refl _, Below.refl _ _⟩
  case round =>
    obtain ⟨a, b, rfl, rfl, ha, hb, hbn, hw⟩ := hrel
    have HW := Lib.hid hw
    clear hw
    by_cases hab : a < b
    · have hab' : (a : Int) < (b : Int) := by omega
      have hh := half a b
      obtain ⟨m, hm⟩ : ∃ m, m = (a + b) / 2 := ⟨_, rfl⟩
      rw [← hm] at hh
      have hm1 : a ≤ m ∧ m < b := by omega
      clear hm
      have HC := Lib.hid (HA.out m (by omega) _ HW.out)
      go_upto_region 4 with fail
      clear hh
      by_cases e : 0 < C m
      · go_wp2_with (refine HC.out.mono ?_; rintro x w' ⟨rfl, hb'⟩; have HB := Lib.hid (HW.out.trans (hb'.mono HW.out.size)); clear hb')
        go_roundw
        case rel => exact ⟨m + 1, b, by go_num, rfl, Nat.lt_of_not_le fun h => (by have := h1 m h (by omega); omega), hb, hbn, HB.out⟩
        case measure => simp [intOf]; omega
      · go_wp2_with (refine HC.out.mono ?_; rintro x w' ⟨rfl, hb'⟩; have HB := Lib.hid (HW.out.trans (hb'.mono HW.out.size)); clear hb')
        go_roundw
        case rel => exact ⟨a, m, rfl, rfl, ha, Nat.le_of_not_lt fun h => (by have := h0 m h; omega), by omega, HB.out⟩
        case measure => simp [intOf]; omega
    · obtain rfl : a = t := by omega
      have hab' : ¬ (a : Int) < (b : Int) := by omega
      have ht2 := ht
      by_cases htn : a < n
      · have htn' : (a : Int) < (n : Int) := by omega
        have HC := Lib.hid (HA.out a htn _ HW.out)
        have hq : decide (a < n ∧ C a = 0) = (C a == 0) := by
          rw [Bool.eq_iff_iff, decide_eq_true_eq, beq_iff_eq]
          exact ⟨fun h => h.2, fun h => ⟨htn, h⟩⟩
        have HQ := Lib.hid hq
        clear hq
        go_wp2_with (refine HC.out.mono ?_; rintro x w' ⟨rfl, hb'⟩; have HB := Lib.hid (HW.out.trans (hb'.mono HW.out.size)); clear hb')
        exact bodyPost_ret (v := .tuple #[.int .i64 (a : Nat), .bool (C a == 0)]) (by simp [results, Tryz.results200, go_sem]) rfl ⟨by rw [HQ.out], HB.out⟩
      · have htn' : ¬ (a : Int) < (n : Int) := by omega
        have hq : decide (a < n ∧ C a = 0) = false := decide_eq_false (fun h => htn h.1)
        have HQ := Lib.hid hq
        clear hq
        go_wp2_with fail
        exact bodyPost_ret (v := .tuple #[.int .i64 (a : Nat), .bool false]) (by simp [results, Tryz.results200, go_sem]) rfl ⟨by first | rfl | rw [HQ.out], HW.out⟩

end Go.Proofs.YtfiledbjbpkleaaGreat

namespace Go.Proofs.YtfiledbjbpkleaaGreat
open Go.RowKit

def C2 (w : World) (b : Nat) (t : TypeId) (x0 x1 : Value) : Prop := w.heap[b]? = some (.cells #[x0, x1] t (0, 0))
section
variable {w w' : World} {b : Nat} {t : TypeId} {x0 x1 : Value}
theorem C2.c0 (h : C2 w b t x0 x1) : w.cell? ⟨b, 0, none⟩ = some x0 := by simpa using cell_of_row w b 0 _ _ (0, 0) h
theorem C2.c1 (h : C2 w b t x0 x1) : w.cell? ⟨b, 1, none⟩ = some x1 := by simpa using cell_of_row w b 1 _ _ (0, 0) h
theorem C2.fz (h : C2 w b t x0 x1) (i : Nat) : w.frozen? ⟨b, i, none⟩ = false := frozen_of_row w b i _ _ h
theorem C2.all (h : C2 w b t x0 x1) : w.cell? ⟨b, 0, none⟩ = some x0 ∧ w.cell? ⟨b, 1, none⟩ = some x1 ∧ w.frozen? ⟨b, 0, none⟩ = false ∧ w.frozen? ⟨b, 1, none⟩ = false :=
  ⟨h.c0, h.c1, h.fz 0, h.fz 1⟩
theorem C2.set0 (h : C2 w b t x0 x1) (y : Value) : C2 (w.setCell ⟨b, 0, none⟩ y) b t y x1 := by
  have := heap_setCell_same w b 0 _ _ y h
  simpa [C2] using this
theorem C2.set1 (h : C2 w b t x0 x1) (y : Value) : C2 (w.setCell ⟨b, 1, none⟩ y) b t x0 y := by
  have := heap_setCell_same w b 1 _ _ y h
  simpa [C2] using this
theorem C2.other (h : C2 w b t x0 x1) {g o : Nat} (hg : b ≠ g) (y : Value) : C2 (w.setCell ⟨g, o, none⟩ y) b t x0 x1 := (Below.heap_setCell w ⟨g, o, none⟩ y b hg).trans h
theorem C2.lt (h : C2 w b t x0 x1) : b < w.heap.size := (Array.getElem?_eq_some_iff.1 h).1
theorem C2.kp {F : Nat → Prop} (h : C2 w b t x0 x1) (hk : Kp F w w') (hF : ¬ F b) : C2 w' b t x0 x1 := hk.at h hF
theorem C2.below (h : C2 w b t x0 x1) (hb : Below w.heap.size w w') : C2 w' b t x0 x1 := (hb.block b h.lt).trans h
theorem C2.grown {row : Option Nat} (h : C2 w b t x0 x1) (hg : w.grownBy w' row) (hb : some b ≠ row) : C2 w' b t x0 x1 := (hg.block b h.lt hb).trans h
theorem C2.new (w : World) (t : TypeId) (x0 x1 : Value) : C2 (w.alloc (.cells #[x0, x1] t)) w.heap.size t x0 x1 := heap_alloc_new w _
theorem C2.alloc (h : C2 w b t x0 x1) (o : Obj) : C2 (w.alloc o) b t x0 x1 := (Below.heap_alloc w o b h.lt).trans h
theorem C2.drew (h : C2 w b t x0 x1) : C2 w.drew b t x0 x1 := h
end

def C4 (w : World) (b : Nat) (t : TypeId) (x0 x1 x2 x3 : Value) : Prop := w.heap[b]? = some (.cells #[x0, x1, x2, x3] t (0, 0))
section
variable {w w' : World} {b : Nat} {t : TypeId} {x0 x1 x2 x3 : Value}
theorem C4.c0 (h : C4 w b t x0 x1 x2 x3) : w.cell? ⟨b, 0, none⟩ = some x0 := by simpa using cell_of_row w b 0 _ _ (0, 0) h
theorem C4.c1 (h : C4 w b t x0 x1 x2 x3) : w.cell? ⟨b, 1, none⟩ = some x1 := by simpa using cell_of_row w b 1 _ _ (0, 0) h
theorem C4.c2 (h : C4 w b t x0 x1 x2 x3) : w.cell? ⟨b, 2, none⟩ = some x2 := by simpa using cell_of_row w b 2 _ _ (0, 0) h
theorem C4.c3 (h : C4 w b t x0 x1 x2 x3) : w.cell? ⟨b, 3, none⟩ = some x3 := by simpa using cell_of_row w b 3 _ _ (0, 0) h
theorem C4.fz (h : C4 w b t x0 x1 x2 x3) (i : Nat) : w.frozen? ⟨b, i, none⟩ = false := frozen_of_row w b i _ _ h
theorem C4.all (h : C4 w b t x0 x1 x2 x3) : w.cell? ⟨b, 0, none⟩ = some x0 ∧ w.cell? ⟨b, 1, none⟩ = some x1 ∧ w.cell? ⟨b, 2, none⟩ = some x2 ∧ w.cell? ⟨b, 3, none⟩ = some x3 ∧ w.frozen? ⟨b, 0, none⟩ = false ∧ w.frozen? ⟨b, 1, none⟩ = false ∧ w.frozen? ⟨b, 2, none⟩ = false ∧ w.frozen? ⟨b, 3, none⟩ = false :=
  ⟨h.c0, h.c1, h.c2, h.c3, h.fz 0, h.fz 1, h.fz 2, h.fz 3⟩
theorem C4.set0 (h : C4 w b t x0 x1 x2 x3) (y : Value) : C4 (w.setCell ⟨b, 0, none⟩ y) b t y x1 x2 x3 := by
  have := heap_setCell_same w b 0 _ _ y h
  simpa [C4] using this
theorem C4.set1 (h : C4 w b t x0 x1 x2 x3) (y : Value) : C4 (w.setCell ⟨b, 1, none⟩ y) b t x0 y x2 x3 := by
  have := heap_setCell_same w b 1 _ _ y h
  simpa [C4] using this
theorem C4.set2 (h : C4 w b t x0 x1 x2 x3) (y : Value) : C4 (w.setCell ⟨b, 2, none⟩ y) b t x0 x1 y x3 := by
  have := heap_setCell_same w b 2 _ _ y h
  simpa [C4] using this
theorem C4.set3 (h : C4 w b t x0 x1 x2 x3) (y : Value) : C4 (w.setCell ⟨b, 3, none⟩ y) b t x0 x1 x2 y := by
  have := heap_setCell_same w b 3 _ _ y h
  simpa [C4] using this
theorem C4.other (h : C4 w b t x0 x1 x2 x3) {g o : Nat} (hg : b ≠ g) (y : Value) : C4 (w.setCell ⟨g, o, none⟩ y) b t x0 x1 x2 x3 := (Below.heap_setCell w ⟨g, o, none⟩ y b hg).trans h
theorem C4.lt (h : C4 w b t x0 x1 x2 x3) : b < w.heap.size := (Array.getElem?_eq_some_iff.1 h).1
theorem C4.kp {F : Nat → Prop} (h : C4 w b t x0 x1 x2 x3) (hk : Kp F w w') (hF : ¬ F b) : C4 w' b t x0 x1 x2 x3 := hk.at h hF
theorem C4.below (h : C4 w b t x0 x1 x2 x3) (hb : Below w.heap.size w w') : C4 w' b t x0 x1 x2 x3 := (hb.block b h.lt).trans h
theorem C4.grown {row : Option Nat} (h : C4 w b t x0 x1 x2 x3) (hg : w.grownBy w' row) (hb : some b ≠ row) : C4 w' b t x0 x1 x2 x3 := (hg.block b h.lt hb).trans h
theorem C4.new (w : World) (t : TypeId) (x0 x1 x2 x3 : Value) : C4 (w.alloc (.cells #[x0, x1, x2, x3] t)) w.heap.size t x0 x1 x2 x3 := heap_alloc_new w _
theorem C4.alloc (h : C4 w b t x0 x1 x2 x3) (o : Obj) : C4 (w.alloc o) b t x0 x1 x2 x3 := (Below.heap_alloc w o b h.lt).trans h
theorem C4.drew (h : C4 w b t x0 x1 x2 x3) : C4 w.drew b t x0 x1 x2 x3 := h
end

def C5 (w : World) (b : Nat) (t : TypeId) (x0 x1 x2 x3 x4 : Value) : Prop := w.heap[b]? = some (.cells #[x0, x1, x2, x3, x4] t (0, 0))
section
variable {w w' : World} {b : Nat} {t : TypeId} {x0 x1 x2 x3 x4 : Value}
theorem C5.c0 (h : C5 w b t x0 x1 x2 x3 x4) : w.cell? ⟨b, 0, none⟩ = some x0 := by simpa using cell_of_row w b 0 _ _ (0, 0) h
theorem C5.c1 (h : C5 w b t x0 x1 x2 x3 x4) : w.cell? ⟨b, 1, none⟩ = some x1 := by simpa using cell_of_row w b 1 _ _ (0, 0) h
theorem C5.c2 (h : C5 w b t x0 x1 x2 x3 x4) : w.cell? ⟨b, 2, none⟩ = some x2 := by simpa using cell_of_row w b 2 _ _ (0, 0) h
theorem C5.c3 (h : C5 w b t x0 x1 x2 x3 x4) : w.cell? ⟨b, 3, none⟩ = some x3 := by simpa using cell_of_row w b 3 _ _ (0, 0) h
theorem C5.c4 (h : C5 w b t x0 x1 x2 x3 x4) : w.cell? ⟨b, 4, none⟩ = some x4 := by simpa using cell_of_row w b 4 _ _ (0, 0) h
theorem C5.fz (h : C5 w b t x0 x1 x2 x3 x4) (i : Nat) : w.frozen? ⟨b, i, none⟩ = false := frozen_of_row w b i _ _ h
theorem C5.all (h : C5 w b t x0 x1 x2 x3 x4) : w.cell? ⟨b, 0, none⟩ = some x0 ∧ w.cell? ⟨b, 1, none⟩ = some x1 ∧ w.cell? ⟨b, 2, none⟩ = some x2 ∧ w.cell? ⟨b, 3, none⟩ = some x3 ∧ w.cell? ⟨b, 4, none⟩ = some x4 ∧ w.frozen? ⟨b, 0, none⟩ = false ∧ w.frozen? ⟨b, 1, none⟩ = false ∧ w.frozen? ⟨b, 2, none⟩ = false ∧ w.frozen? ⟨b, 3, none⟩ = false ∧ w.frozen? ⟨b, 4, none⟩ = false :=
  ⟨h.c0, h.c1, h.c2, h.c3, h.c4, h.fz 0, h.fz 1, h.fz 2, h.fz 3, h.fz 4⟩
theorem C5.set0 (h : C5 w b t x0 x1 x2 x3 x4) (y : Value) : C5 (w.setCell ⟨b, 0, none⟩ y) b t y x1 x2 x3 x4 := by
  have := heap_setCell_same w b 0 _ _ y h
  simpa [C5] using this
theorem C5.set1 (h : C5 w b t x0 x1 x2 x3 x4) (y : Value) : C5 (w.setCell ⟨b, 1, none⟩ y) b t x0 y x2 x3 x4 := by
  have := heap_setCell_same w b 1 _ _ y h
  simpa [C5] using this
theorem C5.set2 (h : C5 w b t x0 x1 x2 x3 x4) (y : Value) : C5 (w.setCell ⟨b, 2, none⟩ y) b t x0 x1 y x3 x4 := by
  have := heap_setCell_same w b 2 _ _ y h
  simpa [C5] using this
theorem C5.set3 (h : C5 w b t x0 x1 x2 x3 x4) (y : Value) : C5 (w.setCell ⟨b, 3, none⟩ y) b t x0 x1 x2 y x4 := by
  have := heap_setCell_same w b 3 _ _ y h
  simpa [C5] using this
theorem C5.set4 (h : C5 w b t x0 x1 x2 x3 x4) (y : Value) : C5 (w.setCell ⟨b, 4, none⟩ y) b t x0 x1 x2 x3 y := by
  have := heap_setCell_same w b 4 _ _ y h
  simpa [C5] using this
theorem C5.other (h : C5 w b t x0 x1 x2 x3 x4) {g o : Nat} (hg : b ≠ g) (y : Value) : C5 (w.setCell ⟨g, o, none⟩ y) b t x0 x1 x2 x3 x4 := (Below.heap_setCell w ⟨g, o, none⟩ y b hg).trans h
theorem C5.lt (h : C5 w b t x0 x1 x2 x3 x4) : b < w.heap.size := (Array.getElem?_eq_some_iff.1 h).1
theorem C5.kp {F : Nat → Prop} (h : C5 w b t x0 x1 x2 x3 x4) (hk : Kp F w w') (hF : ¬ F b) : C5 w' b t x0 x1 x2 x3 x4 := hk.at h hF
theorem C5.below (h : C5 w b t x0 x1 x2 x3 x4) (hb : Below w.heap.size w w') : C5 w' b t x0 x1 x2 x3 x4 := (hb.block b h.lt).trans h
theorem C5.grown {row : Option Nat} (h : C5 w b t x0 x1 x2 x3 x4) (hg : w.grownBy w' row) (hb : some b ≠ row) : C5 w' b t x0 x1 x2 x3 x4 := (hg.block b h.lt hb).trans h
theorem C5.new (w : World) (t : TypeId) (x0 x1 x2 x3 x4 : Value) : C5 (w.alloc (.cells #[x0, x1, x2, x3, x4] t)) w.heap.size t x0 x1 x2 x3 x4 := heap_alloc_new w _
theorem C5.alloc (h : C5 w b t x0 x1 x2 x3 x4) (o : Obj) : C5 (w.alloc o) b t x0 x1 x2 x3 x4 := (Below.heap_alloc w o b h.lt).trans h
theorem C5.drew (h : C5 w b t x0 x1 x2 x3 x4) : C5 w.drew b t x0 x1 x2 x3 x4 := h
end

def C6 (w : World) (b : Nat) (t : TypeId) (x0 x1 x2 x3 x4 x5 : Value) : Prop := w.heap[b]? = some (.cells #[x0, x1, x2, x3, x4, x5] t (0, 0))
section
variable {w w' : World} {b : Nat} {t : TypeId} {x0 x1 x2 x3 x4 x5 : Value}
theorem C6.c0 (h : C6 w b t x0 x1 x2 x3 x4 x5) : w.cell? ⟨b, 0, none⟩ = some x0 := by simpa using cell_of_row w b 0 _ _ (0, 0) h
theorem C6.c1 (h : C6 w b t x0 x1 x2 x3 x4 x5) : w.cell? ⟨b, 1, none⟩ = some x1 := by simpa using cell_of_row w b 1 _ _ (0, 0) h
theorem C6.c2 (h : C6 w b t x0 x1 x2 x3 x4 x5) : w.cell? ⟨b, 2, none⟩ = some x2 := by simpa using cell_of_row w b 2 _ _ (0, 0) h
theorem C6.c3 (h : C6 w b t x0 x1 x2 x3 x4 x5) : w.cell? ⟨b, 3, none⟩ = some x3 := by simpa using cell_of_row w b 3 _ _ (0, 0) h
theorem C6.c4 (h : C6 w b t x0 x1 x2 x3 x4 x5) : w.cell? ⟨b, 4, none⟩ = some x4 := by simpa using cell_of_row w b 4 _ _ (0, 0) h
theorem C6.c5 (h : C6 w b t x0 x1 x2 x3 x4 x5) : w.cell? ⟨b, 5, none⟩ = some x5 := by simpa using cell_of_row w b 5 _ _ (0, 0) h
theorem C6.fz (h : C6 w b t x0 x1 x2 x3 x4 x5) (i : Nat) : w.frozen? ⟨b, i, none⟩ = false := frozen_of_row w b i _ _ h
theorem C6.all (h : C6 w b t x0 x1 x2 x3 x4 x5) : w.cell? ⟨b, 0, none⟩ = some x0 ∧ w.cell? ⟨b, 1, none⟩ = some x1 ∧ w.cell? ⟨b, 2, none⟩ = some x2 ∧ w.cell? ⟨b, 3, none⟩ = some x3 ∧ w.cell? ⟨b, 4, none⟩ = some x4 ∧ w.cell? ⟨b, 5, none⟩ = some x5 ∧ w.frozen? ⟨b, 0, none⟩ = false ∧ w.frozen? ⟨b, 1, none⟩ = false ∧ w.frozen? ⟨b, 2, none⟩ = false ∧ w.frozen? ⟨b, 3, none⟩ = false ∧ w.frozen? ⟨b, 4, none⟩ = false ∧ w.frozen? ⟨b, 5, none⟩ = false :=
  ⟨h.c0, h.c1, h.c2, h.c3, h.c4, h.c5, h.fz 0, h.fz 1, h.fz 2, h.fz 3, h.fz 4, h.fz 5⟩
theorem C6.set0 (h : C6 w b t x0 x1 x2 x3 x4 x5) (y : Value) : C6 (w.setCell ⟨b, 0, none⟩ y) b t y x1 x2 x3 x4 x5 := by
  have := heap_setCell_same w b 0 _ _ y h
  simpa [C6] using this
theorem C6.set1 (h : C6 w b t x0 x1 x2 x3 x4 x5) (y : Value) : C6 (w.setCell ⟨b, 1, none⟩ y) b t x0 y x2 x3 x4 x5 := by
  have := heap_setCell_same w b 1 _ _ y h
  simpa [C6] using this
theorem C6.set2 (h : C6 w b t x0 x1 x2 x3 x4 x5) (y : Value) : C6 (w.setCell ⟨b, 2, none⟩ y) b t x0 x1 y x3 x4 x5 := by
  have := heap_setCell_same w b 2 _ _ y h
  simpa [C6] using this
theorem C6.set3 (h : C6 w b t x0 x1 x2 x3 x4 x5) (y : Value) : C6 (w.setCell ⟨b, 3, none⟩ y) b t x0 x1 x2 y x4 x5 := by
  have := heap_setCell_same w b 3 _ _ y h
  simpa [C6] using this
theorem C6.set4 (h : C6 w b t x0 x1 x2 x3 x4 x5) (y : Value) : C6 (w.setCell ⟨b, 4, none⟩ y) b t x0 x1 x2 x3 y x5 := by
  have := heap_setCell_same w b 4 _ _ y h
  simpa [C6] using this
theorem C6.set5 (h : C6 w b t x0 x1 x2 x3 x4 x5) (y : Value) : C6 (w.setCell ⟨b, 5, none⟩ y) b t x0 x1 x2 x3 x4 y := by
  have := heap_setCell_same w b 5 _ _ y h
  simpa [C6] using this
theorem C6.other (h : C6 w b t x0 x1 x2 x3 x4 x5) {g o : Nat} (hg : b ≠ g) (y : Value) : C6 (w.setCell ⟨g, o, none⟩ y) b t x0 x1 x2 x3 x4 x5 := (Below.heap_setCell w ⟨g, o, none⟩ y b hg).trans h
theorem C6.lt (h : C6 w b t x0 x1 x2 x3 x4 x5) : b < w.heap.size := (Array.getElem?_eq_some_iff.1 h).1
theorem C6.kp {F : Nat → Prop} (h : C6 w b t x0 x1 x2 x3 x4 x5) (hk : Kp F w w') (hF : ¬ F b) : C6 w' b t x0 x1 x2 x3 x4 x5 := hk.at h hF
theorem C6.below (h : C6 w b t x0 x1 x2 x3 x4 x5) (hb : Below w.heap.size w w') : C6 w' b t x0 x1 x2 x3 x4 x5 := (hb.block b h.lt).trans h
theorem C6.grown {row : Option Nat} (h : C6 w b t x0 x1 x2 x3 x4 x5) (hg : w.grownBy w' row) (hb : some b ≠ row) : C6 w' b t x0 x1 x2 x3 x4 x5 := (hg.block b h.lt hb).trans h
theorem C6.new (w : World) (t : TypeId) (x0 x1 x2 x3 x4 x5 : Value) : C6 (w.alloc (.cells #[x0, x1, x2, x3, x4, x5] t)) w.heap.size t x0 x1 x2 x3 x4 x5 := heap_alloc_new w _
theorem C6.alloc (h : C6 w b t x0 x1 x2 x3 x4 x5) (o : Obj) : C6 (w.alloc o) b t x0 x1 x2 x3 x4 x5 := (Below.heap_alloc w o b h.lt).trans h
theorem C6.drew (h : C6 w b t x0 x1 x2 x3 x4 x5) : C6 w.drew b t x0 x1 x2 x3 x4 x5 := h
end

end Go.Proofs.YtfiledbjbpkleaaGreat

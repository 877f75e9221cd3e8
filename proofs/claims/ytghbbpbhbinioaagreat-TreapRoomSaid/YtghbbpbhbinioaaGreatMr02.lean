/- Several texts in one. -/
import Derived.Laws.BitsAllLaws
import Derived.Lib.BitFns
import Derived.Test.YtghbbpbhbinioaaGreatProg
import Derived.Test.YtghbbpbhbinioaaGreatMr01
import Derived.Laws.ShiftsVarLaws
import Derived.Lib.Hide
import Derived.LoopTactic
import Derived.BigQuiet
import Derived.Deep.LoopGhost
import Derived.Deep.Cut
import Derived.IntWalk
namespace Go.Proofs.YtghbbpbhbinioaaGreat

def cnt (n : Nat) : Nat → Nat
  | 0 => 0
  | i + 1 => cnt n i + (n.testBit i).toNat

theorem cnt_le (n : Nat) : ∀ i, cnt n i ≤ i
  | 0 => Nat.le_refl _
  | i + 1 => by have := cnt_le n i; have := Bool.toNat_le (n.testBit i); unfold cnt; omega
theorem cnt_congr {m n : Nat} : ∀ i, (∀ k, k < i → m.testBit k = n.testBit k) → cnt m i = cnt n i
  | 0, _ => rfl
  | i + 1, h => by unfold cnt; rw [cnt_congr i fun k hk => h k (by omega), h i (by omega)]
theorem cnt_add (n a : Nat) : ∀ b, cnt n (a + b) = cnt n a + cnt (n / 2 ^ a) b
  | 0 => by simp [cnt]
  | b + 1 => by
    have : (n / 2 ^ a).testBit b = n.testBit (a + b) := by rw [Nat.testBit_div_two_pow, Nat.add_comm]
    rw [← Nat.add_assoc, show cnt n (a + b + 1) = cnt n (a + b) + (n.testBit (a + b)).toNat from rfl, show cnt (n / 2 ^ a) (b + 1) = cnt (n / 2 ^ a) b + ((n / 2 ^ a).testBit b).toNat from rfl, cnt_add n a b, this]
    omega
theorem cnt_zero : ∀ i, cnt 0 i = 0
  | 0 => rfl
  | i + 1 => by unfold cnt; rw [cnt_zero i]; simp
theorem cnt_small {n a : Nat} (h : n < 2 ^ a) (b : Nat) : cnt n (a + b) = cnt n a := by
  rw [cnt_add, Nat.div_eq_of_lt h, cnt_zero]; rfl
theorem cnt_mod (n a : Nat) : cnt (n % 2 ^ a) a = cnt n a :=
  cnt_congr a fun k hk => by rw [Nat.testBit_mod_two_pow]; simp [hk]
theorem pop_cnt : ∀ f n, Lib.popAux f n = cnt n f
  | 0, _ => rfl
  | f + 1, n => by
    rw [Lib.popAux, pop_cnt f, Nat.add_comm f 1, cnt_add n 1 f]
    have : cnt n 1 = n % 2 := by
      unfold cnt cnt
      rw [Nat.testBit_zero]
      have : n % 2 = 0 ∨ n % 2 = 1 := by omega
      rcases this with h | h <;> simp [h]
    rw [this]
theorem pop8_cnt (x : Nat) (h : x < 256) : Lib.pop8 (x : Int) = (cnt x 8 : Nat) := by
  have e := Lib.pop8_eq ⟨x, h⟩
  simp only at e
  rw [e, Lib.onesCount, pop_cnt, show (64 : Nat) = 8 + 56 from rfl, cnt_small (a := 8) (by omega)]
theorem cnt_32 (n : Nat) : cnt n 32 = cnt (n / 16777216) 8 + cnt (n / 65536 % 256) 8 + cnt (n / 256 % 256) 8 + cnt (n % 256) 8 := by
  have h1 : cnt (n % 256) 8 = cnt n 8 := cnt_mod n 8
  have h2 : cnt (n / 256 % 256) 8 = cnt (n / 256) 8 := cnt_mod _ 8
  have h3 : cnt (n / 65536 % 256) 8 = cnt (n / 65536) 8 := cnt_mod _ 8
  rw [h1, h2, h3, show (32 : Nat) = 8 + (8 + (8 + 8)) from rfl, cnt_add n 8, cnt_add _ 8, cnt_add _ 8, Nat.div_div_eq_div_mul, Nat.div_div_eq_div_mul]
  show cnt n 8 + (cnt (n / 256) 8 + (cnt (n / 65536) 8 + cnt (n / 16777216) 8)) = _
  omega

theorem and_255 (x : Nat) (h : x < 4294967296) : bits .and .u32 (x : Int) 255 = ((x % 256 : Nat) : Int) := by
  have := u32_and_nat x 255 h (by decide)
  rw [nat_mask8] at this
  exact this
theorem and_1 (x : Nat) (h : x < 4294967296) : bits .and .u32 (x : Int) 1 = ((x % 2 : Nat) : Int) := by
  have := u32_and_nat x 1 h (by decide)
  rw [nat_mask1] at this
  exact this
theorem and_low (n i : Nat) (h : n < 4294967296) (hi : i < 32) : bits .and .u32 (n : Int) ((2 ^ i - 1 : Nat) : Int) = ((n % 2 ^ i : Nat) : Int) := by
  have hp : 2 ^ i ≤ 2 ^ 31 := Nat.pow_le_pow_right (by decide) (by omega)
  rw [u32_and_nat n _ h (by omega), Nat.and_two_pow_sub_one_eq_mod]
theorem cnt_low (n i : Nat) (hi : i ≤ 32) : cnt (n % 2 ^ i) 32 = cnt n i := by
  obtain ⟨j, hj⟩ : ∃ j, 32 = i + j := ⟨32 - i, by omega⟩
  rw [hj, cnt_small (Nat.mod_lt _ (Nat.two_pow_pos i)), cnt_mod]

theorem pow_32 {k : Nat} (h : k < 32) : 2 ^ k < 4294967296 := Nat.pow_lt_pow_right (m := k) (n := 32) (by decide) h
end Go.Proofs.YtghbbpbhbinioaaGreat

namespace Go.Proofs.YtghbbpbhbinioaaGreat
set_option maxRecDepth 100000
open Go.RowKit

def digB (i : Int) : Bool := decide (0 ≤ i) && decide (i < 32)

theorem is_digit (i : Int) (w : World) : Calls Tryz.prog 170 #[.int .i64 i] w fun e w' => e = .returned (.bool (digB i)) ∧ w = w' := by
  go_enter Tryz.func170, Tryz.ntmps170
  by_cases h : 0 ≤ i
  · go_wp2_with fail
    go_ret
    exact ⟨ret_bool (by simp [digB, h]), rfl⟩
  · go_wp2_with fail
    go_ret
    exact ⟨ret_bool (by simp [digB]; omega), rfl⟩

theorem has_bit (n k : Nat) (hn : n < 4294967296) : (bits .and .u32 ((n : Int) / 2 ^ k) 1 == 1) = n.testBit k := by
  have e : (n : Int) / 2 ^ k = ((n / 2 ^ k : Nat) : Int) := by simp
  rw [e, and_1 _ (Nat.lt_of_le_of_lt (Nat.div_le_self _ _) hn), Nat.testBit_eq_decide_div_mod_eq, Bool.eq_iff_iff]
  simp only [beq_iff_eq, decide_eq_true_eq]
  omega

theorem has (n : Nat) (hn : n < 4294967296) (k : Nat) (hk : k < 32) (w : World) : Calls Tryz.prog 139 #[.int .u32 n, .int .i64 k] w fun e w' => e = .returned (.bool (n.testBit k)) ∧ w = w' := by
  go_enter Tryz.func139, Tryz.ntmps139
  go_wp2_with fail
  refine (is_digit k _).mono ?_
  rintro e w' ⟨rfl, rfl⟩
  rw [show digB k = true by simp [digB]; omega]
  go_wp2_with fail
  go_ret
  exact ⟨ret_bool (has_bit n k hn), rfl⟩

theorem pop_fold : (⟨(([0, 1, 1, 2, 1, 2, 2, 3, 1, 2, 2, 3, 2, 3, 3, 4, 1, 2, 2, 3, 2, 3, 3, 4, 2, 3, 3, 4, 3, 4, 4, 5, 1, 2, 2, 3, 2, 3, 3, 4, 2, 3, 3, 4, 3, 4, 4, 5, 2, 3, 3, 4, 3, 4, 4, 5, 3, 4, 4, 5, 4, 5, 5, 6].append [1, 2, 2, 3, 2, 3, 3, 4, 2, 3, 3, 4, 3, 4, 4, 5, 2, 3, 3, 4, 3, 4, 4, 5, 3, 4, 4, 5, 4, 5, 5, 6, 2, 3, 3, 4, 3, 4, 4, 5, 3, 4, 4, 5, 4, 5, 5, 6, 3, 4, 4, 5, 4, 5, 5, 6, 4, 5, 5, 6, 5, 6, 6, 7]).append ([1, 2, 2, 3, 2, 3, 3, 4, 2, 3, 3, 4, 3, 4, 4, 5, 2, 3, 3, 4, 3, 4, 4, 5, 3, 4, 4, 5, 4, 5, 5, 6, 2, 3, 3, 4, 3, 4, 4, 5, 3, 4, 4, 5, 4, 5, 5, 6, 3, 4, 4, 5, 4, 5, 5, 6, 4, 5, 5, 6, 5, 6, 6, 7].append [2, 3, 3, 4, 3, 4, 4, 5, 3, 4, 4, 5, 4, 5, 5, 6, 3, 4, 4, 5, 4, 5, 5, 6, 4, 5, 5, 6, 5, 6, 6, 7, 3, 4, 4, 5, 4, 5, 5, 6, 4, 5, 5, 6, 5, 6, 6, 7, 4, 5, 5, 6, 5, 6, 6, 7, 5, 6, 6, 7, 6, 7, 7, 8])).toArray⟩ : ByteArray) = Lib.pop8tab := by kernel_rfl

theorem ones (n : Nat) (hn : n < 4294967296) (w : World) : Calls Tryz.prog 188 #[.int .u32 n] w fun e w' => e = .returned (.int .i64 (cnt n 32)) ∧ Gw w w' := by
  go_enter Tryz.func188, Tryz.ntmps188
  simp only [pop_fold]
  obtain ⟨a, ha⟩ : ∃ a, a = n / 16777216 := ⟨_, rfl⟩
  obtain ⟨b, hb⟩ : ∃ b, b = n / 65536 % 256 := ⟨_, rfl⟩
  obtain ⟨c, hc⟩ : ∃ c, c = n / 256 % 256 := ⟨_, rfl⟩
  obtain ⟨d, hd⟩ : ∃ d, d = n % 256 := ⟨_, rfl⟩
  have h0 : (n : Int) / 16777216 = (a : Int) := by omega
  have h1 : bits .and .u32 ((n : Int) / 65536) 255 = (b : Int) := by rw [hb]; exact and_255 (n / 65536) (by omega)
  have h2 : bits .and .u32 ((n : Int) / 256) 255 = (c : Int) := by rw [hc]; exact and_255 (n / 256) (by omega)
  have h3 : bits .and .u32 (n : Int) 255 = (d : Int) := by rw [hd]; exact and_255 n hn
  have e0 : (0 : Int) ≤ (a : Int) ∧ (a : Int) ≤ 255 := by omega
  have e1 : (0 : Int) ≤ (b : Int) ∧ (b : Int) ≤ 255 := by omega
  have e2 : (0 : Int) ≤ (c : Int) ∧ (c : Int) ≤ 255 := by omega
  have e3 : (0 : Int) ≤ (d : Int) ∧ (d : Int) ≤ 255 := by omega
  have p0 := pop8_cnt a (by omega)
  have p1 := pop8_cnt b (by omega)
  have p2 := pop8_cnt c (by omega)
  have p3 := pop8_cnt d (by omega)
  have HS := Lib.hid (show cnt n 32 = cnt a 8 + cnt b 8 + cnt c 8 + cnt d 8 by rw [ha, hb, hc, hd]; exact cnt_32 n)
  clear ha hb hc hd
  go_wp2_with fail
  go_quiet (fail)
  go_wp2_with fail
  go_ret
  have := HS.out
  have := cnt_le n 32
  exact ⟨ret_int (by omega), (Gw.refl w).drewN _⟩

theorem len (n : Nat) (hn : n < 4294967296) (w : World) : Calls Tryz.prog 169 #[.int .u32 n] w fun e w' => e = .returned (.int .i64 (cnt n 32)) ∧ Gw w w' := by
  go_enter Tryz.func169, Tryz.ntmps169
  go_wp2_with fail
  refine (ones n hn _).mono ?_
  rintro e w' ⟨rfl, g⟩
  go_wp2_with fail
  go_ret
  exact ⟨rfl, g⟩

theorem low_run (n k : Nat) (hn : n < 4294967296) (hk : k < 32) : bits .and .u32 (n : Int) ((2 ^ k - 1) % 4294967296) = ((n % 2 ^ k : Nat) : Int) := by
  rw [← and_low n k hn hk]
  have hp := pow_32 hk
  have h0 := Nat.two_pow_pos k
  have e : (2 : Int) ^ k = ((2 ^ k : Nat) : Int) := by simp
  congr 1
  rw [e]
  omega

def placeN (n : Nat) (i : Int) : Nat := cnt n (min i.toNat 32)

theorem place (n : Nat) (hn : n < 4294967296) (i : Int) (w : World) : Calls Tryz.prog 140 #[.int .u32 n, .int .i64 i] w fun e w' => e = .returned (.int .i64 (placeN n i)) ∧ Gw w w' := by
  go_enter Tryz.func140, Tryz.ntmps140
  by_cases h0 : i < 0
  · go_wp2_with fail
    go_ret
    exact ⟨ret_int (by unfold placeN; rw [show i.toNat = 0 by omega]; rfl), Gw.refl _⟩
  by_cases h1 : 32 ≤ i
  · go_wp2_with fail
    refine (len n hn _).mono ?_
    rintro e w' ⟨rfl, g⟩
    go_wp2_with fail
    go_ret
    exact ⟨ret_int (by unfold placeN; rw [show min i.toNat 32 = 32 by omega]), g⟩
  · obtain ⟨k, rfl⟩ := Int.eq_ofNat_of_zero_le (show 0 ≤ i by omega)
    go_wp2_with fail
    rw [low_run n k hn (by omega)]
    refine (len (n % 2 ^ k) (Nat.lt_of_le_of_lt (Nat.mod_le _ _) hn) _).mono ?_
    rintro e w' ⟨rfl, g⟩
    rw [cnt_low n k (by omega)]
    go_wp2_with fail
    go_ret
    exact ⟨ret_int (by unfold placeN; rw [show min (k : Int).toNat 32 = k by omega]), g⟩

def Ints (w : World) (A : Option Addr) (l : List Int) : Prop :=
  l = [] ∨ ∃ b o, A = some ⟨b, o, none⟩ ∧ b < w.heap.size ∧ ∀ (i : Nat) (x : Int), l[i]? = some x → w.cell? ⟨b, o + i, none⟩ = some (.int .i64 x)
theorem Ints.at {w : World} {A : Option Addr} {l : List Int} (h : Ints w A l) {i : Nat} {x : Int} (hi : l[i]? = some x) : ∃ b o, A = some ⟨b, o, none⟩ ∧ w.cell? ⟨b, o + i, none⟩ = some (.int .i64 x) := by
  rcases h with h | ⟨b, o, hA, _, hc⟩
  · subst h; simp at hi
  · exact ⟨b, o, hA, hc i x hi⟩
theorem Ints.below {w w' : World} {A : Option Addr} {l : List Int} (h : Ints w A l) (g : Below w.heap.size w w') : Ints w' A l := by
  rcases h with h | ⟨b, o, hA, hb, hc⟩
  · exact .inl h
  · exact .inr ⟨b, o, hA, Nat.lt_of_lt_of_le hb g.size, fun i x hx => (g.cell (p := ⟨b, _, none⟩) hb).trans (hc i x hx)⟩

end Go.Proofs.YtghbbpbhbinioaaGreat

namespace Go.Proofs.YtghbbpbhbinioaaGreat
set_option maxRecDepth 100000
open Go.RowKit

theorem half (i j : Nat) : ((i : Int) + j) / 2 = (((i + j) / 2 : Nat) : Int) := by omega

end Go.Proofs.YtghbbpbhbinioaaGreat

namespace Go.Proofs.YtghbbpbhbinioaaGreat
open Go.RowKit

def C2 (w : World) (b : Nat) (t : TypeId) (x0 x1 : Value) : Prop := w.heap[b]? = some (.cells #[x0, x1] t (0, 0))
section
variable {w w' : World} {b : Nat} {t : TypeId} {x0 x1 : Value}
theorem C2.c0 (h : C2 w b t x0 x1) : w.cell? ⟨b, 0, none⟩ = some x0 := by simpa using cell_of_row w b 0 _ _ (0, 0) h
theorem C2.c1 (h : C2 w b t x0 x1) : w.cell? ⟨b, 1, none⟩ = some x1 := by simpa using cell_of_row w b 1 _ _ (0, 0) h
theorem C2.fz (h : C2 w b t x0 x1) (i : Nat) : w.frozen? ⟨b, i, none⟩ = false := frozen_of_row w b i _ _ h
theorem C2.all (h : C2 w b t x0 x1) : w.cell? ⟨b, 0, none⟩ = some x0 ∧ w.cell? ⟨b, 1, none⟩ = some x1 ∧ w.frozen? ⟨b, 0, none⟩ = false ∧ w.frozen? ⟨b, 1, none⟩ = false :=
  ⟨h.c0, h.c1, h.fz 0, h.fz 1⟩
theorem C2.set0 (h : C2 w b t x0 x1) (y : Value) : C2 (w.setCell ⟨b, 0, none⟩ y) b t y x1 := by
  have := heap_setCell_same w b 0 _ _ y h
  simpa [C2] using this
theorem C2.set1 (h : C2 w b t x0 x1) (y : Value) : C2 (w.setCell ⟨b, 1, none⟩ y) b t x0 y := by
  have := heap_setCell_same w b 1 _ _ y h
  simpa [C2] using this
theorem C2.other (h : C2 w b t x0 x1) {g o : Nat} (hg : b ≠ g) (y : Value) : C2 (w.setCell ⟨g, o, none⟩ y) b t x0 x1 := (Below.heap_setCell w ⟨g, o, none⟩ y b hg).trans h
theorem C2.lt (h : C2 w b t x0 x1) : b < w.heap.size := (Array.getElem?_eq_some_iff.1 h).1
theorem C2.kp {F : Nat → Prop} (h : C2 w b t x0 x1) (hk : Kp F w w') (hF : ¬ F b) : C2 w' b t x0 x1 := hk.at h hF
theorem C2.below (h : C2 w b t x0 x1) (hb : Below w.heap.size w w') : C2 w' b t x0 x1 := (hb.block b h.lt).trans h
theorem C2.grown {row : Option Nat} (h : C2 w b t x0 x1) (hg : w.grownBy w' row) (hb : some b ≠ row) : C2 w' b t x0 x1 := (hg.block b h.lt hb).trans h
theorem C2.new (w : World) (t : TypeId) (x0 x1 : Value) : C2 (w.alloc (.cells #[x0, x1] t)) w.heap.size t x0 x1 := heap_alloc_new w _
theorem C2.alloc (h : C2 w b t x0 x1) (o : Obj) : C2 (w.alloc o) b t x0 x1 := (Below.heap_alloc w o b h.lt).trans h
theorem C2.drew (h : C2 w b t x0 x1) : C2 w.drew b t x0 x1 := h
end

def C4 (w : World) (b : Nat) (t : TypeId) (x0 x1 x2 x3 : Value) : Prop := w.heap[b]? = some (.cells #[x0, x1, x2, x3] t (0, 0))
section
variable {w w' : World} {b : Nat} {t : TypeId} {x0 x1 x2 x3 : Value}
theorem C4.c0 (h : C4 w b t x0 x1 x2 x3) : w.cell? ⟨b, 0, none⟩ = some x0 := by simpa using cell_of_row w b 0 _ _ (0, 0) h
theorem C4.c1 (h : C4 w b t x0 x1 x2 x3) : w.cell? ⟨b, 1, none⟩ = some x1 := by simpa using cell_of_row w b 1 _ _ (0, 0) h
theorem C4.c2 (h : C4 w b t x0 x1 x2 x3) : w.cell? ⟨b, 2, none⟩ = some x2 := by simpa using cell_of_row w b 2 _ _ (0, 0) h
theorem C4.c3 (h : C4 w b t x0 x1 x2 x3) : w.cell? ⟨b, 3, none⟩ = some x3 := by simpa using cell_of_row w b 3 _ _ (0, 0) h
theorem C4.fz (h : C4 w b t x0 x1 x2 x3) (i : Nat) : w.frozen? ⟨b, i, none⟩ = false := frozen_of_row w b i _ _ h
theorem C4.all (h : C4 w b t x0 x1 x2 x3) : w.cell? ⟨b, 0, none⟩ = some x0 ∧ w.cell? ⟨b, 1, none⟩ = some x1 ∧ w.cell? ⟨b, 2, none⟩ = some x2 ∧ w.cell? ⟨b, 3, none⟩ = some x3 ∧ w.frozen? ⟨b, 0, none⟩ = false ∧ w.frozen? ⟨b, 1, none⟩ = false ∧ w.frozen? ⟨b, 2, none⟩ = false ∧ w.frozen? ⟨b, 3, none⟩ = false :=
  ⟨h.c0, h.c1, h.c2, h.c3, h.fz 0, h.fz 1, h.fz 2, h.fz 3⟩
theorem C4.set0 (h : C4 w b t x0 x1 x2 x3) (y : Value) : C4 (w.setCell ⟨b, 0, none⟩ y) b t y x1 x2 x3 := by
  have := heap_setCell_same w b 0 _ _ y h
  simpa [C4] using this
theorem C4.set1 (h : C4 w b t x0 x1 x2 x3) (y : Value) : C4 (w.setCell ⟨b, 1, none⟩ y) b t x0 y x2 x3 := by
  have := heap_setCell_same w b 1 _ _ y h
  simpa [C4] using this
theorem C4.set2 (h : C4 w b t x0 x1 x2 x3) (y : Value) : C4 (w.setCell ⟨b, 2, none⟩ y) b t x0 x1 y x3 := by
  have := heap_setCell_same w b 2 _ _ y h
  simpa [C4] using this
theorem C4.set3 (h : C4 w b t x0 x1 x2 x3) (y : Value) : C4 (w.setCell ⟨b, 3, none⟩ y) b t x0 x1 x2 y := by
  have := heap_setCell_same w b 3 _ _ y h
  simpa [C4] using this
theorem C4.other (h : C4 w b t x0 x1 x2 x3) {g o : Nat} (hg : b ≠ g) (y : Value) : C4 (w.setCell ⟨g, o, none⟩ y) b t x0 x1 x2 x3 := (Below.heap_setCell w ⟨g, o, none⟩ y b hg).trans h
theorem C4.lt (h : C4 w b t x0 x1 x2 x3) : b < w.heap.size := (Array.getElem?_eq_some_iff.1 h).1
theorem C4.kp {F : Nat → Prop} (h : C4 w b t x0 x1 x2 x3) (hk : Kp F w w') (hF : ¬ F b) : C4 w' b t x0 x1 x2 x3 := hk.at h hF
theorem C4.below (h : C4 w b t x0 x1 x2 x3) (hb : Below w.heap.size w w') : C4 w' b t x0 x1 x2 x3 := (hb.block b h.lt).trans h
theorem C4.grown {row : Option Nat} (h : C4 w b t x0 x1 x2 x3) (hg : w.grownBy w' row) (hb : some b ≠ row) : C4 w' b t x0 x1 x2 x3 := (hg.block b h.lt hb).trans h
theorem C4.new (w : World) (t : TypeId) (x0 x1 x2 x3 : Value) : C4 (w.alloc (.cells #[x0, x1, x2, x3] t)) w.heap.size t x0 x1 x2 x3 := heap_alloc_new w _
theorem C4.alloc (h : C4 w b t x0 x1 x2 x3) (o : Obj) : C4 (w.alloc o) b t x0 x1 x2 x3 := (Below.heap_alloc w o b h.lt).trans h
theorem C4.drew (h : C4 w b t x0 x1 x2 x3) : C4 w.drew b t x0 x1 x2 x3 := h
end

def C5 (w : World) (b : Nat) (t : TypeId) (x0 x1 x2 x3 x4 : Value) : Prop := w.heap[b]? = some (.cells #[x0, x1, x2, x3, x4] t (0, 0))
section
variable {w w' : World} {b : Nat} {t : TypeId} {x0 x1 x2 x3 x4 : Value}
theorem C5.c0 (h : C5 w b t x0 x1 x2 x3 x4) : w.cell? ⟨b, 0, none⟩ = some x0 := by simpa using cell_of_row w b 0 _ _ (0, 0) h
theorem C5.c1 (h : C5 w b t x0 x1 x2 x3 x4) : w.cell? ⟨b, 1, none⟩ = some x1 := by simpa using cell_of_row w b 1 _ _ (0, 0) h
theorem C5.c2 (h : C5 w b t x0 x1 x2 x3 x4) : w.cell? ⟨b, 2, none⟩ = some x2 := by simpa using cell_of_row w b 2 _ _ (0, 0) h
theorem C5.c3 (h : C5 w b t x0 x1 x2 x3 x4) : w.cell? ⟨b, 3, none⟩ = some x3 := by simpa using cell_of_row w b 3 _ _ (0, 0) h
theorem C5.c4 (h : C5 w b t x0 x1 x2 x3 x4) : w.cell? ⟨b, 4, none⟩ = some x4 := by simpa using cell_of_row w b 4 _ _ (0, 0) h
theorem C5.fz (h : C5 w b t x0 x1 x2 x3 x4) (i : Nat) : w.frozen? ⟨b, i, none⟩ = false := frozen_of_row w b i _ _ h
theorem C5.all (h : C5 w b t x0 x1 x2 x3 x4) : w.cell? ⟨b, 0, none⟩ = some x0 ∧ w.cell? ⟨b, 1, none⟩ = some x1 ∧ w.cell? ⟨b, 2, none⟩ = some x2 ∧ w.cell? ⟨b, 3, none⟩ = some x3 ∧ w.cell? ⟨b, 4, none⟩ = some x4 ∧ w.frozen? ⟨b, 0, none⟩ = false ∧ w.frozen? ⟨b, 1, none⟩ = false ∧ w.frozen? ⟨b, 2, none⟩ = false ∧ w.frozen? ⟨b, 3, none⟩ = false ∧ w.frozen? ⟨b, 4, none⟩ = false :=
  ⟨h.c0, h.c1, h.c2, h.c3, h.c4, h.fz 0, h.fz 1, h.fz 2, h.fz 3, h.fz 4⟩
theorem C5.set0 (h : C5 w b t x0 x1 x2 x3 x4) (y : Value) : C5 (w.setCell ⟨b, 0, none⟩ y) b t y x1 x2 x3 x4 := by
  have := heap_setCell_same w b 0 _ _ y h
  simpa [C5] using this
theorem C5.set1 (h : C5 w b t x0 x1 x2 x3 x4) (y : Value) : C5 (w.setCell ⟨b, 1, none⟩ y) b t x0 y x2 x3 x4 := by
  have := heap_setCell_same w b 1 _ _ y h
  simpa [C5] using this
theorem C5.set2 (h : C5 w b t x0 x1 x2 x3 x4) (y : Value) : C5 (w.setCell ⟨b, 2, none⟩ y) b t x0 x1 y x3 x4 := by
  have := heap_setCell_same w b 2 _ _ y h
  simpa [C5] using this
theorem C5.set3 (h : C5 w b t x0 x1 x2 x3 x4) (y : Value) : C5 (w.setCell ⟨b, 3, none⟩ y) b t x0 x1 x2 y x4 := by
  have := heap_setCell_same w b 3 _ _ y h
  simpa [C5] using this
theorem C5.set4 (h : C5 w b t x0 x1 x2 x3 x4) (y : Value) : C5 (w.setCell ⟨b, 4, none⟩ y) b t x0 x1 x2 x3 y := by
  have := heap_setCell_same w b 4 _ _ y h
  simpa [C5] using this
theorem C5.other (h : C5 w b t x0 x1 x2 x3 x4) {g o : Nat} (hg : b ≠ g) (y : Value) : C5 (w.setCell ⟨g, o, none⟩ y) b t x0 x1 x2 x3 x4 := (Below.heap_setCell w ⟨g, o, none⟩ y b hg).trans h
theorem C5.lt (h : C5 w b t x0 x1 x2 x3 x4) : b < w.heap.size := (Array.getElem?_eq_some_iff.1 h).1
theorem C5.kp {F : Nat → Prop} (h : C5 w b t x0 x1 x2 x3 x4) (hk : Kp F w w') (hF : ¬ F b) : C5 w' b t x0 x1 x2 x3 x4 := hk.at h hF
theorem C5.below (h : C5 w b t x0 x1 x2 x3 x4) (hb : Below w.heap.size w w') : C5 w' b t x0 x1 x2 x3 x4 := (hb.block b h.lt).trans h
theorem C5.grown {row : Option Nat} (h : C5 w b t x0 x1 x2 x3 x4) (hg : w.grownBy w' row) (hb : some b ≠ row) : C5 w' b t x0 x1 x2 x3 x4 := (hg.block b h.lt hb).trans h
theorem C5.new (w : World) (t : TypeId) (x0 x1 x2 x3 x4 : Value) : C5 (w.alloc (.cells #[x0, x1, x2, x3, x4] t)) w.heap.size t x0 x1 x2 x3 x4 := heap_alloc_new w _
theorem C5.alloc (h : C5 w b t x0 x1 x2 x3 x4) (o : Obj) : C5 (w.alloc o) b t x0 x1 x2 x3 x4 := (Below.heap_alloc w o b h.lt).trans h
theorem C5.drew (h : C5 w b t x0 x1 x2 x3 x4) : C5 w.drew b t x0 x1 x2 x3 x4 := h
end

def C6 (w : World) (b : Nat) (t : TypeId) (x0 x1 x2 x3 x4 x5 : Value) : Prop := w.heap[b]? = some (.cells #[x0, x1, x2, x3, x4, x5] t (0, 0))
section
variable {w w' : World} {b : Nat} {t : TypeId} {x0 x1 x2 x3 x4 x5 : Value}
theorem C6.c0 (h : C6 w b t x0 x1 x2 x3 x4 x5) : w.cell? ⟨b, 0, none⟩ = some x0 := by simpa using cell_of_row w b 0 _ _ (0, 0) h
theorem C6.c1 (h : C6 w b t x0 x1 x2 x3 x4 x5) : w.cell? ⟨b, 1, none⟩ = some x1 := by simpa using cell_of_row w b 1 _ _ (0, 0) h
theorem C6.c2 (h : C6 w b t x0 x1 x2 x3 x4 x5) : w.cell? ⟨b, 2, none⟩ = some x2 := by simpa using cell_of_row w b 2 _ _ (0, 0) h
theorem C6.c3 (h : C6 w b t x0 x1 x2 x3 x4 x5) : w.cell? ⟨b, 3, none⟩ = some x3 := by simpa using cell_of_row w b 3 _ _ (0, 0) h
theorem C6.c4 (h : C6 w b t x0 x1 x2 x3 x4 x5) : w.cell? ⟨b, 4, none⟩ = some x4 := by simpa using cell_of_row w b 4 _ _ (0, 0) h
theorem C6.c5 (h : C6 w b t x0 x1 x2 x3 x4 x5) : w.cell? ⟨b, 5, none⟩ = some x5 := by simpa using cell_of_row w b 5 _ _ (0, 0) h
theorem C6.fz (h : C6 w b t x0 x1 x2 x3 x4 x5) (i : Nat) : w.frozen? ⟨b, i, none⟩ = false := frozen_of_row w b i _ _ h
theorem C6.all (h : C6 w b t x0 x1 x2 x3 x4 x5) : w.cell? ⟨b, 0, none⟩ = some x0 ∧ w.cell? ⟨b, 1, none⟩ = some x1 ∧ w.cell? ⟨b, 2, none⟩ = some x2 ∧ w.cell? ⟨b, 3, none⟩ = some x3 ∧ w.cell? ⟨b, 4, none⟩ = some x4 ∧ w.cell? ⟨b, 5, none⟩ = some x5 ∧ w.frozen? ⟨b, 0, none⟩ = false ∧ w.frozen? ⟨b, 1, none⟩ = false ∧ w.frozen? ⟨b, 2, none⟩ = false ∧ w.frozen? ⟨b, 3, none⟩ = false ∧ w.frozen? ⟨b, 4, none⟩ = false ∧ w.frozen? ⟨b, 5, none⟩ = false :=
  ⟨h.c0, h.c1, h.c2, h.c3, h.c4, h.c5, h.fz 0, h.fz 1, h.fz 2, h.fz 3, h.fz 4, h.fz 5⟩
theorem C6.set0 (h : C6 w b t x0 x1 x2 x3 x4 x5) (y : Value) : C6 (w.setCell ⟨b, 0, none⟩ y) b t y x1 x2 x3 x4 x5 := by
  have := heap_setCell_same w b 0 _ _ y h
  simpa [C6] using this
theorem C6.set1 (h : C6 w b t x0 x1 x2 x3 x4 x5) (y : Value) : C6 (w.setCell ⟨b, 1, none⟩ y) b t x0 y x2 x3 x4 x5 := by
  have := heap_setCell_same w b 1 _ _ y h
  simpa [C6] using this
theorem C6.set2 (h : C6 w b t x0 x1 x2 x3 x4 x5) (y : Value) : C6 (w.setCell ⟨b, 2, none⟩ y) b t x0 x1 y x3 x4 x5 := by
  have := heap_setCell_same w b 2 _ _ y h
  simpa [C6] using this
theorem C6.set3 (h : C6 w b t x0 x1 x2 x3 x4 x5) (y : Value) : C6 (w.setCell ⟨b, 3, none⟩ y) b t x0 x1 x2 y x4 x5 := by
  have := heap_setCell_same w b 3 _ _ y h
  simpa [C6] using this
theorem C6.set4 (h : C6 w b t x0 x1 x2 x3 x4 x5) (y : Value) : C6 (w.setCell ⟨b, 4, none⟩ y) b t x0 x1 x2 x3 y x5 := by
  have := heap_setCell_same w b 4 _ _ y h
  simpa [C6] using this
theorem C6.set5 (h : C6 w b t x0 x1 x2 x3 x4 x5) (y : Value) : C6 (w.setCell ⟨b, 5, none⟩ y) b t x0 x1 x2 x3 x4 y := by
  have := heap_setCell_same w b 5 _ _ y h
  simpa [C6] using this
theorem C6.other (h : C6 w b t x0 x1 x2 x3 x4 x5) {g o : Nat} (hg : b ≠ g) (y : Value) : C6 (w.setCell ⟨g, o, none⟩ y) b t x0 x1 x2 x3 x4 x5 := (Below.heap_setCell w ⟨g, o, none⟩ y b hg).trans h
theorem C6.lt (h : C6 w b t x0 x1 x2 x3 x4 x5) : b < w.heap.size := (Array.getElem?_eq_some_iff.1 h).1
theorem C6.kp {F : Nat → Prop} (h : C6 w b t x0 x1 x2 x3 x4 x5) (hk : Kp F w w') (hF : ¬ F b) : C6 w' b t x0 x1 x2 x3 x4 x5 := hk.at h hF
theorem C6.below (h : C6 w b t x0 x1 x2 x3 x4 x5) (hb : Below w.heap.size w w') : C6 w' b t x0 x1 x2 x3 x4 x5 := (hb.block b h.lt).trans h
theorem C6.grown {row : Option Nat} (h : C6 w b t x0 x1 x2 x3 x4 x5) (hg : w.grownBy w' row) (hb : some b ≠ row) : C6 w' b t x0 x1 x2 x3 x4 x5 := (hg.block b h.lt hb).trans h
theorem C6.new (w : World) (t : TypeId) (x0 x1 x2 x3 x4 x5 : Value) : C6 (w.alloc (.cells #[x0, x1, x2, x3, x4, x5] t)) w.heap.size t x0 x1 x2 x3 x4 x5 := heap_alloc_new w _
theorem C6.alloc (h : C6 w b t x0 x1 x2 x3 x4 x5) (o : Obj) : C6 (w.alloc o) b t x0 x1 x2 x3 x4 x5 := (Below.heap_alloc w o b h.lt).trans h
theorem C6.drew (h : C6 w b t x0 x1 x2 x3 x4 x5) : C6 w.drew b t x0 x1 x2 x3 x4 x5 := h
end

end Go.Proofs.YtghbbpbhbinioaaGreat

namespace Go.Proofs.YtghbbpbhbinioaaGreat

structure Hc where
  owner : Int
  a : Int
  b : Int
  vals : List (Int × Int × ByteArray)
  kids : List Nat

abbrev Cells := Nat → Option (Hc × Nat)

def upd {α : Type} (f : Nat → α) (i : Nat) (v : α) : Nat → α := fun j => if j = i then v else f j
section
variable {α β : Type}
theorem upd_same (f : Nat → α) (i : Nat) (v : α) : upd f i v i = v := if_pos rfl
theorem upd_other (f : Nat → α) {i j : Nat} (v : α) (h : j ≠ i) : upd f i v j = f j := if_neg h
theorem upd_comp (g : α → β) (f : Nat → α) (i : Nat) (v : α) : (fun j => g (upd f i v j)) = upd (fun j => g (f j)) i (g v) := by
  funext j; unfold upd; split <;> rfl
end

def sumTo : Nat → (Nat → Nat) → Nat
  | 0, _ => 0
  | n + 1, f => sumTo n f + f n
theorem sumTo_congr {f g : Nat → Nat} : ∀ (n : Nat), (∀ j, j < n → f j = g j) → sumTo n f = sumTo n g
  | 0, _ => rfl
  | n + 1, h => by rw [sumTo, sumTo, sumTo_congr n (fun j hj => h j (by omega)), h n (by omega)]
theorem sumTo_upd_out (f : Nat → Nat) (i v : Nat) : ∀ (n : Nat), n ≤ i → sumTo n (upd f i v) = sumTo n f :=
  fun n h => sumTo_congr n fun j hj => upd_other f v (by omega)
theorem sumTo_upd (f : Nat → Nat) (i v : Nat) : ∀ (n : Nat), i < n → sumTo n (upd f i v) + f i = sumTo n f + v
  | 0, h => by omega
  | n + 1, h => by
    rw [sumTo, sumTo]
    by_cases e : i = n
    · subst e; rw [sumTo_upd_out f i v i (Nat.le_refl _), upd_same]; omega
    · rw [upd_other f v (Ne.symm e)]; have := sumTo_upd f i v n (by omega); omega
theorem le_sumTo (f : Nat → Nat) {i : Nat} : ∀ (n : Nat), i < n → f i ≤ sumTo n f
  | 0, h => by omega
  | n + 1, h => by
    rw [sumTo]
    by_cases e : i = n
    · subst e; omega
    · have := le_sumTo f n (show i < n by omega); omega
theorem sumTo_pos {f : Nat → Nat} : ∀ {n : Nat}, 0 < sumTo n f → ∃ j, j < n ∧ 0 < f j
  | 0, h => by simp [sumTo] at h
  | n + 1, h => by
    rw [sumTo] at h
    by_cases e : 0 < f n
    · exact ⟨n, by omega, e⟩
    · obtain ⟨j, hj, hf⟩ := sumTo_pos (n := n) (f := f) (by omega); exact ⟨j, by omega, hf⟩
theorem sumTo_zero {f : Nat → Nat} {n : Nat} (h : ∀ j, j < n → f j = 0) : sumTo n f = 0 := by
  rcases Nat.eq_zero_or_pos (sumTo n f) with e | e
  · exact e
  · obtain ⟨j, hj, hf⟩ := sumTo_pos e; have := h j hj; omega
theorem sumTo_le {f : Nat → Nat} (b : Nat) : ∀ (n : Nat), (∀ j, j < n → f j ≤ b) → sumTo n f ≤ n * b
  | 0, _ => by simp [sumTo]
  | n + 1, h => by
    rw [sumTo, Nat.succ_mul]
    exact Nat.add_le_add (sumTo_le b n fun j hj => h j (by omega)) (h n (by omega))

def kd : Option (Hc × Nat) → List Nat
  | none => []
  | some x => x.1.kids
def rf : Option (Hc × Nat) → Nat
  | none => 0
  | some x => x.2
def one : Option (Hc × Nat) → Nat
  | none => 0
  | some _ => 1
def occ (N : Nat) (M : Cells) (i : Nat) : Nat := sumTo N fun j => (kd (M j)).count i
def live (N : Nat) (M : Cells) : Nat := sumTo N fun j => one (M j)
def load (N : Nat) (M : Cells) : Nat := sumTo N fun j => rf (M j) + (kd (M j)).length

section
variable {N : Nat} {M : Cells}
theorem occ_upd (i : Nat) (v : Option (Hc × Nat)) (k : Nat) (h : i < N) : occ N (upd M i v) k + (kd (M i)).count k = occ N M k + (kd v).count k := by
  unfold occ
  rw [upd_comp (fun x => (kd x).count k) M i v]
  exact sumTo_upd _ _ _ _ h
theorem live_upd (i : Nat) (v : Option (Hc × Nat)) (h : i < N) : live N (upd M i v) + one (M i) = live N M + one v := by
  unfold live
  rw [upd_comp one M i v]
  exact sumTo_upd _ _ _ _ h
theorem load_upd (i : Nat) (v : Option (Hc × Nat)) (h : i < N) : load N (upd M i v) + (rf (M i) + (kd (M i)).length) = load N M + (rf v + (kd v).length) := by
  unfold load
  rw [upd_comp (fun x => rf x + (kd x).length) M i v]
  exact sumTo_upd _ _ _ _ h
theorem count_le_occ {j : Nat} (hj : j < N) (k : Nat) : (kd (M j)).count k ≤ occ N M k := le_sumTo (fun j => (kd (M j)).count k) N hj
theorem live_zero (h : ∀ j, M j = none) : live N M = 0 := sumTo_zero fun j _ => by simp [h j, one]
end

def release (M : Cells) (x : Nat) : Cells × List Nat :=
  match M x with
  | none => (M, [])
  | some (c, r) => if 1 < r then (upd M x (some (c, r - 1)), []) else (upd M x none, c.kids)
inductive Drops : Cells → List Nat → Cells → Prop
  | done (M : Cells) : Drops M [] M
  | step {M M' : Cells} {t : List Nat} {x : Nat} (h : Drops (release M x).1 (t ++ (release M x).2) M') : Drops M (t ++ [x]) M'

def Sub (M' M : Cells) : Prop := ∀ j c r, M' j = some (c, r) → ∃ r0, M j = some (c, r0) ∧ r ≤ r0
theorem Sub.refl (M : Cells) : Sub M M := fun _ _ r h => ⟨r, h, Nat.le_refl _⟩
theorem Sub.trans {A B C : Cells} (h : Sub A B) (k : Sub B C) : Sub A C := fun j c r hj => by
  obtain ⟨r0, h0, l0⟩ := h j c r hj
  obtain ⟨r1, h1, l1⟩ := k j c r0 h0
  exact ⟨r1, h1, Nat.le_trans l0 l1⟩
theorem Sub.none {A B : Cells} (h : Sub A B) {j : Nat} (hj : B j = none) : A j = none := by
  cases e : A j with
  | none => rfl
  | some x => obtain ⟨r0, h0, _⟩ := h j x.1 x.2 e; rw [hj] at h0; cases h0
theorem Sub.kd {A B : Cells} (h : Sub A B) {j k : Nat} (hk : k ∈ kd (A j)) : k ∈ kd (B j) := by
  cases e : A j with
  | none => simp [e, Proofs.YtghbbpbhbinioaaGreat.kd] at hk
  | some x =>
    obtain ⟨r0, h0, _⟩ := h j x.1 x.2 e
    rw [h0]
    simpa [e, Proofs.YtghbbpbhbinioaaGreat.kd] using hk

structure Ok (N : Nat) (M : Cells) (own : Nat → Nat) (t : List Nat) : Prop where
  zero : M 0 = none
  top : ∀ j, N ≤ j → M j = none
  pos : ∀ j, M j ≠ none → 1 ≤ rf (M j)
  bal : ∀ i, 1 ≤ i → rf (M i) = own i + t.count i + occ N M i
  rank : ∃ rk : Nat → Nat, ∀ j k, k ∈ kd (M j) → k ≠ 0 → rk k < rk j

section
variable {N : Nat} {M : Cells} {own : Nat → Nat} {t : List Nat}
theorem Ok.lt (h : Ok N M own t) {j : Nat} (hj : M j ≠ none) : 1 ≤ j ∧ j < N := by
  refine ⟨?_, ?_⟩
  · rcases Nat.eq_zero_or_pos j with e | e
    · subst e; exact absurd h.zero hj
    · exact e
  · rcases Nat.lt_or_ge j N with e | e
    · exact e
    · exact absurd (h.top j e) hj
theorem held_of_rf {o : Option (Hc × Nat)} (h : 1 ≤ rf o) : o ≠ none := by rintro rfl; simp [rf] at h
theorem Ok.kid (h : Ok N M own t) {j k : Nat} (hk : k ∈ kd (M j)) (h0 : k ≠ 0) : M k ≠ none := by
  have hj : M j ≠ none := by intro e; simp [e, kd] at hk
  have h1 := count_le_occ (M := M) (h.lt hj).2 k
  have h2 := h.bal k (by omega)
  have h3 := List.count_pos_iff.2 hk
  exact held_of_rf (by omega)
theorem Ok.owned (h : Ok N M own t) {i : Nat} (h1 : 1 ≤ i) (ho : 1 ≤ own i) : M i ≠ none := held_of_rf (by have := h.bal i h1; omega)
theorem Ok.next (h : Ok N M own t) {i : Nat} (h1 : 1 ≤ i) (ho : i ∈ t) : M i ≠ none := held_of_rf (by have := h.bal i h1; have := List.count_pos_iff.2 ho; omega)
theorem Ok.free (h : Ok N M own t) {i : Nat} (h1 : 1 ≤ i) (hi : M i = none) : own i = 0 ∧ t.count i = 0 ∧ occ N M i = 0 := by
  have := h.bal i h1; rw [hi] at this; simp only [rf] at this; omega

theorem Ok.perm (h : Ok N M own t) {t' : List Nat} (ht : ∀ i, 1 ≤ i → t'.count i = t.count i) : Ok N M own t' :=
  ⟨h.zero, h.top, h.pos, fun i hi => by rw [ht i hi]; exact h.bal i hi, h.rank⟩

theorem Ok.release (h : Ok N M own t) {x : Nat} {s : List Nat} (ht : ∀ i, t.count i = s.count i + [x].count i) : Ok N (release M x).1 own (s ++ (release M x).2) ∧ Sub (release M x).1 M := by
  unfold Proofs.YtghbbpbhbinioaaGreat.release
  cases e : M x with
  | none =>
    refine ⟨h.perm fun i hi => ?_, Sub.refl M⟩
    have := ht i
    rw [List.append_nil]
    by_cases hx : x = i
    · subst hx
      have := (h.free hi e).2.1
      rw [List.count_singleton_self] at *
      omega
    · rw [List.count_singleton, if_neg (by simpa using hx)] at this; omega
  | some y =>
    obtain ⟨c, r⟩ := y
    have hx := h.lt (j := x) (by rw [e]; simp)
    by_cases hr : 1 < r
    · simp only [hr, if_true, List.append_nil]
      refine ⟨⟨?_, ?_, ?_, ?_, ?_⟩, ?_⟩
      · rw [upd_other _ _ (by omega)]; exact h.zero
      · intro j hj; rw [upd_other _ _ (by omega)]; exact h.top j hj
      · intro j hj
        by_cases hjx : j = x
        · subst hjx; rw [upd_same]; simp only [rf]; omega
        · rw [upd_other _ _ hjx] at hj ⊢; exact h.pos j hj
      · intro i hi
        have h1 := h.bal i hi
        have h2 := ht i
        have h3 := occ_upd (M := M) x (some (c, r - 1)) i hx.2
        rw [e] at h3
        simp only [kd] at h3
        by_cases hix : i = x
        · subst hix
          rw [upd_same]
          rw [e] at h1
          rw [List.count_singleton_self] at h2
          simp only [rf] at *
          omega
        · rw [upd_other _ _ hix]
          rw [List.count_singleton, if_neg (by simpa using Ne.symm hix)] at h2
          omega
      · obtain ⟨rk, hrk⟩ := h.rank
        refine ⟨rk, fun j k hk h0 => hrk j k ?_ h0⟩
        by_cases hjx : j = x
        · subst hjx; rw [upd_same] at hk; rw [e]; exact hk
        · rwa [upd_other _ _ hjx] at hk
      · intro j c' r' hj
        by_cases hjx : j = x
        · subst hjx; rw [upd_same] at hj; injection hj with hj; injection hj with h1 h2; subst h1 h2; exact ⟨r, e, by omega⟩
        · rw [upd_other _ _ hjx] at hj; exact ⟨r', hj, Nat.le_refl _⟩
    · simp only [hr, if_false]
      have h1 := h.pos x (by rw [e]; simp)
      have hb := h.bal x hx.1
      have hc := count_le_occ (M := M) hx.2 x
      have htx := ht x
      rw [e] at h1 hb hc
      rw [List.count_singleton_self] at htx
      simp only [rf, kd] at h1 hb hc
      refine ⟨⟨?_, ?_, ?_, ?_, ?_⟩, ?_⟩
      · rw [upd_other _ _ (by omega)]; exact h.zero
      · intro j hj; rw [upd_other _ _ (by omega)]; exact h.top j hj
      · intro j hj
        by_cases hjx : j = x
        · subst hjx; rw [upd_same] at hj; exact absurd rfl hj
        · rw [upd_other _ _ hjx] at hj ⊢; exact h.pos j hj
      · intro i hi
        have h1 := h.bal i hi
        have h2 := ht i
        have h3 := occ_upd (M := M) x none i hx.2
        rw [e] at h3
        rw [List.count_append]
        simp only [kd, List.count_nil] at h3
        by_cases hix : i = x
        · subst hix
          rw [upd_same]
          simp only [rf]
          omega
        · rw [upd_other _ _ hix]
          rw [List.count_singleton, if_neg (by simpa using Ne.symm hix)] at h2
          omega
      · obtain ⟨rk, hrk⟩ := h.rank
        refine ⟨rk, fun j k hk h0 => hrk j k ?_ h0⟩
        by_cases hjx : j = x
        · subst hjx; rw [upd_same] at hk; simp [kd] at hk
        · rwa [upd_other _ _ hjx] at hk
      · intro j c' r' hj
        by_cases hjx : j = x
        · subst hjx; rw [upd_same] at hj; cases hj
        · rw [upd_other _ _ hjx] at hj; exact ⟨r', hj, Nat.le_refl _⟩

theorem Drops.ok {M' : Cells} (hd : Drops M t M') : Ok N M own t → Ok N M' own [] ∧ Sub M' M := by
  induction hd with
  | done M => exact fun h => ⟨h, Sub.refl M⟩
  | step _ ih =>
    intro h
    obtain ⟨h1, s1⟩ := h.release (fun i => List.count_append)
    obtain ⟨h2, s2⟩ := ih h1
    exact ⟨h2, s2.trans s1⟩

theorem release_load {x : Nat} (hx : x < N ∨ M x = none) (hp : M x ≠ none → 1 ≤ rf (M x)) : load N (release M x).1 + (release M x).2.length ≤ load N M := by
  unfold release
  cases e : M x with
  | none => simp
  | some y =>
    obtain ⟨c, r⟩ := y
    have hx' : x < N := by
      rcases hx with h | h
      · exact h
      · rw [e] at h; cases h
    have h1 := hp (by rw [e]; simp)
    rw [e] at h1
    simp only [rf] at h1
    by_cases hr : 1 < r
    · simp only [hr, if_true]
      have := load_upd (M := M) x (some (c, r - 1)) hx'
      rw [e] at this
      simp only [rf, kd, List.length_nil] at *
      omega
    · simp only [hr, if_false]
      have := load_upd (M := M) x none hx'
      rw [e] at this
      simp only [rf, kd, List.length_nil] at *
      omega

theorem Ok.nobody (h : Ok N M own []) (ho : ∀ i, own i = 0) : ∀ j, M j = none := by
  obtain ⟨rk, hrk⟩ := h.rank
  have key : ∀ d j, M j ≠ none → sumTo N rk - rk j < d → False := by
    intro d
    induction d with
    | zero => intro j _ h; omega
    | succ d ih =>
      intro j hj hlt
      have hl := h.lt hj
      have hb := h.bal j hl.1
      have hp := h.pos j hj
      rw [ho j] at hb
      simp only [List.count_nil, Nat.zero_add] at hb
      obtain ⟨p, hpN, hpc⟩ := sumTo_pos (f := fun j' => (kd (M j')).count j) (n := N) (by unfold occ at hb; omega)
      have hmem := List.count_pos_iff.1 hpc
      have hp' : M p ≠ .none := by intro e; simp [e, kd] at hmem
      have hr := hrk p j hmem (by omega)
      have := le_sumTo rk N hpN
      exact ih p hp' (by omega)
  intro j
  cases e : M j with
  | none => rfl
  | some x => exact (key _ j (by rw [e]; simp) (Nat.lt_succ_self _)).elim

theorem Ok.make (h : Ok N M own []) {i : Nat} (hi : 1 ≤ i) (hN : i < N) (hf : M i = .none) (c : Hc) (hk : ∀ k, 1 ≤ k → c.kids.count k ≤ own k) :
    Ok N (upd M i (some (c, 1))) (fun k => own k - c.kids.count k + if k = i then 1 else 0) [] := by
  have hfree := h.free hi hf
  have hci : c.kids.count i = 0 := by have := hk i hi; omega
  refine ⟨?_, ?_, ?_, ?_, ?_⟩
  · rw [upd_other _ _ (by omega)]; exact h.zero
  · intro j hj; rw [upd_other _ _ (by omega)]; exact h.top j hj
  · intro j hj
    by_cases e : j = i
    · subst e; rw [upd_same]; exact Nat.le_refl _
    · rw [upd_other _ _ e] at hj ⊢; exact h.pos j hj
  · intro k h1
    have hb := h.bal k h1
    have ho := occ_upd (M := M) i (some (c, 1)) k hN
    have := hk k h1
    rw [hf] at ho
    simp only [kd, List.count_nil, Nat.add_zero] at *
    by_cases e : k = i
    · subst e; rw [upd_same, if_pos rfl]; simp only [rf]; omega
    · rw [upd_other _ _ e, if_neg e]; omega
  · obtain ⟨rk, hrk⟩ := h.rank
    have hno : ∀ j, i ∉ kd (M j) := fun j hm => h.kid hm (by omega) hf
    refine ⟨upd rk i (sumTo N rk + 1), fun j k hk' h0 => ?_⟩
    by_cases e : j = i
    · subst e
      rw [upd_same] at hk' ⊢
      have hki : k ≠ j := by rintro rfl; exact absurd (List.count_pos_iff.2 hk') (by simp only [kd]; omega)
      rw [upd_other _ _ hki]
      have hkN : k < N := by
        refine (h.lt (j := k) ?_).2
        refine h.owned (by omega) ?_
        have := hk k (by omega)
        have := List.count_pos_iff.2 hk'
        simp only [kd] at this
        omega
      have := le_sumTo rk N hkN
      omega
    · rw [upd_other _ _ e] at hk' ⊢
      rw [upd_other _ _ (by rintro rfl; exact hno j hk')]
      exact hrk j k hk' h0

theorem Ok.keep (h : Ok N M own []) {i : Nat} {c : Hc} {r : Nat} (hi : M i = some (c, r)) : Ok N (upd M i (some (c, r + 1))) (fun k => own k + if k = i then 1 else 0) [] := by
  have hl := h.lt (j := i) (by rw [hi]; simp)
  refine ⟨?_, ?_, ?_, ?_, ?_⟩
  · rw [upd_other _ _ (by omega)]; exact h.zero
  · intro j hj; rw [upd_other _ _ (by omega)]; exact h.top j hj
  · intro j hj
    by_cases e : j = i
    · subst e; rw [upd_same]; simp [rf]
    · rw [upd_other _ _ e] at hj ⊢; exact h.pos j hj
  · intro k h1
    have hb := h.bal k h1
    have ho := occ_upd (M := M) i (some (c, r + 1)) k hl.2
    rw [hi] at ho
    simp only [kd, List.count_nil, Nat.add_zero] at *
    by_cases e : k = i
    · subst e; rw [upd_same, if_pos rfl]; rw [hi] at hb; simp only [rf] at *; omega
    · rw [upd_other _ _ e, if_neg e]; omega
  · obtain ⟨rk, hrk⟩ := h.rank
    refine ⟨rk, fun j k hk h0 => hrk j k ?_ h0⟩
    by_cases e : j = i
    · subst e; rw [upd_same] at hk; rw [hi]; exact hk
    · rwa [upd_other _ _ e] at hk

theorem Ok.edit (h : Ok N M own []) {i : Nat} {c0 c : Hc} (hi : M i = some (c0, 1)) (ho : 1 ≤ own i) (hk : ∀ k, 1 ≤ k → c.kids.count k ≤ own k) (hn : i ∉ c.kids) :
    Ok N (upd M i (some (c, 1))) (fun k => own k - c.kids.count k + c0.kids.count k) [] := by
  have hl := h.lt (j := i) (by rw [hi]; simp)
  have hbi := h.bal i hl.1
  rw [hi] at hbi
  simp only [rf, List.count_nil] at hbi
  have hno : ∀ j, i ∉ kd (M j) := fun j hm => by
    have hj : M j ≠ .none := by intro e; simp [e, kd] at hm
    have := count_le_occ (M := M) (h.lt hj).2 i
    have := List.count_pos_iff.2 hm
    omega
  refine ⟨?_, ?_, ?_, ?_, ?_⟩
  · rw [upd_other _ _ (by omega)]; exact h.zero
  · intro j hj; rw [upd_other _ _ (by omega)]; exact h.top j hj
  · intro j hj
    by_cases e : j = i
    · subst e; rw [upd_same]; exact Nat.le_refl _
    · rw [upd_other _ _ e] at hj ⊢; exact h.pos j hj
  · intro k h1
    have hb := h.bal k h1
    have hoc := occ_upd (M := M) i (some (c, 1)) k hl.2
    have := hk k h1
    have hle := count_le_occ (M := M) hl.2 k
    rw [hi] at hoc hle
    simp only [kd, List.count_nil, Nat.add_zero] at *
    by_cases e : k = i
    · subst e
      rw [upd_same]
      have h1 : c.kids.count k = 0 := List.count_eq_zero.2 hn
      have h2 : c0.kids.count k = 0 := by omega
      simp only [rf]
      omega
    · rw [upd_other _ _ e]; omega
  · obtain ⟨rk, hrk⟩ := h.rank
    refine ⟨upd rk i (sumTo N rk + 1), fun j k hk' h0 => ?_⟩
    by_cases e : j = i
    · subst e
      rw [upd_same] at hk' ⊢
      have hki : k ≠ j := by rintro rfl; exact hn hk'
      rw [upd_other _ _ hki]
      have hkN : k < N := by
        refine (h.lt (j := k) ?_).2
        refine h.owned (by omega) ?_
        have := hk k (by omega)
        have := List.count_pos_iff.2 hk'
        simp only [kd] at this
        omega
      have := le_sumTo rk N hkN
      omega
    · rw [upd_other _ _ e] at hk' ⊢
      rw [upd_other _ _ (by rintro rfl; exact hno j hk')]
      exact hrk j k hk' h0

theorem Ok.give (h : Ok N M own []) {i : Nat} (ho : 1 ≤ own i) : Ok N M (fun k => own k - if k = i then 1 else 0) [i] := by
  refine ⟨h.zero, h.top, h.pos, fun k hk => ?_, h.rank⟩
  have := h.bal k hk
  by_cases e : k = i
  · subst e; rw [if_pos rfl, List.count_singleton_self]; simp only [List.count_nil] at this; omega
  · rw [if_neg e, List.count_singleton, if_neg (by simpa using Ne.symm e)]; simp only [List.count_nil] at this; omega
end

end Go.Proofs.YtghbbpbhbinioaaGreat

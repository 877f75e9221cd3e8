/- Several texts in one. -/
import Derived.Test.YtacoingheieceaaGreatMA12
import Derived.Laws.Bits64b
import Derived.Lib.Hide
import Derived.LoopTactic
import Derived.Conc.MuLone
import Derived.Defers
import Derived.RegionTactic
import Derived.RegionCalls
import Derived.Deep.RegionWith
import Derived.Laws.NewBlocks
import Derived.Laws.Pointers
import Derived.DataElems
import Derived.Maps.AppendAt
import Derived.Test.YtacoingheieceaaGreatProg
import Derived.Test.YtacoingheieceaaGreatMA01
import Derived.Laws.OwnMore
import Derived.Lib.AppendStr
import Derived.Lib.ConvBytes
import Derived.Laws.BytesArg
import Derived.Lib.Endian
import Derived.OwnWalk
/- Layer 3's mixing: what it is as plain mathematics, that it is one to one, and what Mix and the document's Mix and Key return. -/
namespace Go.Proofs.YtacoingheieceaaGreat
open Go.RowKit

/-- A number mixed. -/
def mixA (n : Nat) : Nat := (n ^^^ n / 1073741824) * 13787848793156543929 % 18446744073709551616
def mixB (n : Nat) : Nat := (n ^^^ n / 134217728) * 10723151780598845931 % 18446744073709551616
def mixC (n : Nat) : Nat := n ^^^ n / 2147483648
def mixN (n : Nat) : Nat := mixC (mixB (mixA n))

theorem mixA_lt (n : Nat) : mixA n < 18446744073709551616 := Nat.mod_lt _ (by decide)
theorem mixB_lt (n : Nat) : mixB n < 18446744073709551616 := Nat.mod_lt _ (by decide)
theorem mixC_lt {n : Nat} (h : n < 18446744073709551616) : mixC n < 18446744073709551616 :=
  Nat.xor_lt_two_pow (n := 64) h (Nat.lt_of_le_of_lt (Nat.div_le_self _ _) h)
theorem mixN_lt (n : Nat) : mixN n < 18446744073709551616 := mixC_lt (mixB_lt _)

/-- A number against itself moved down is one to one. -/
theorem xs_inj (k : Nat) (hk : 0 < k) {x y : Nat} (hx : x < 2 ^ 64) (hy : y < 2 ^ 64) (h : x ^^^ x / 2 ^ k = y ^^^ y / 2 ^ k) : x = y := by
  have bit : ∀ i, (x.testBit i ^^ x.testBit (i + k)) = (y.testBit i ^^ y.testBit (i + k)) := fun i => by
    have := congrArg (fun z => z.testBit i) h
    simpa [Nat.testBit_xor, Nat.testBit_div_two_pow, Nat.add_comm] using this
  have key : ∀ m i, 64 ≤ i + m * k → x.testBit i = y.testBit i := by
    intro m
    induction m with
    | zero =>
      intro i hi
      have e : 2 ^ 64 ≤ 2 ^ i := Nat.pow_le_pow_right (by decide) (by omega)
      rw [Nat.testBit_lt_two_pow (Nat.lt_of_lt_of_le hx e), Nat.testBit_lt_two_pow (Nat.lt_of_lt_of_le hy e)]
    | succ m ih =>
      intro i hi
      have e := ih (i + k) (by rw [Nat.succ_mul] at hi; omega)
      have b := bit i
      rw [e] at b
      revert b
      cases x.testBit i <;> cases y.testBit i <;> cases y.testBit (i + k) <;> simp
  refine Nat.eq_of_testBit_eq fun i => key 64 i ?_
  have : 64 * 1 ≤ 64 * k := Nat.mul_le_mul_left _ hk
  omega
theorem mul_inj {c d x y : Nat} (hcd : c * d % 18446744073709551616 = 1) (hx : x < 18446744073709551616) (hy : y < 18446744073709551616) (h : x * c % 18446744073709551616 = y * c % 18446744073709551616) : x = y := by
  have back : ∀ z, z < 18446744073709551616 → z * c % 18446744073709551616 * d % 18446744073709551616 = z := fun z hz => by
    rw [Nat.mod_mul_mod, Nat.mul_assoc, Nat.mul_mod, hcd, Nat.mul_one, Nat.mod_mod, Nat.mod_eq_of_lt hz]
  rw [← back x hx, h, back y hy]

theorem xs_lt (k : Nat) {n : Nat} (h : n < 18446744073709551616) : n ^^^ n / k < 18446744073709551616 :=
  Nat.xor_lt_two_pow (n := 64) h (Nat.lt_of_le_of_lt (Nat.div_le_self _ _) h)
theorem mixA_inj {x y : Nat} (hx : x < 18446744073709551616) (hy : y < 18446744073709551616) (h : mixA x = mixA y) : x = y :=
  xs_inj 30 (by decide) hx hy (mul_inj (d := 10871156337175269513) (by decide) (xs_lt _ hx) (xs_lt _ hy) h)
theorem mixB_inj {x y : Nat} (hx : x < 18446744073709551616) (hy : y < 18446744073709551616) (h : mixB x = mixB y) : x = y :=
  xs_inj 27 (by decide) hx hy (mul_inj (d := 3573116690164977347) (by decide) (xs_lt _ hx) (xs_lt _ hy) h)
theorem mixC_inj {x y : Nat} (hx : x < 18446744073709551616) (hy : y < 18446744073709551616) (h : mixC x = mixC y) : x = y :=
  xs_inj 31 (by decide) hx hy h
/-- Mixing is one to one. -/
theorem mixN_inj {x y : Nat} (hx : x < 18446744073709551616) (hy : y < 18446744073709551616) (h : mixN x = mixN y) : x = y :=
  mixA_inj hx hy (mixB_inj (mixA_lt _) (mixA_lt _) (mixC_inj (mixB_lt _) (mixB_lt _) h))
theorem mixN_eq {x y : Nat} (hx : x < 18446744073709551616) (hy : y < 18446744073709551616) : mixN x = mixN y ↔ x = y := ⟨mixN_inj hx hy, fun h => by rw [h]⟩

/-- The key of a seed. -/
def keyN (seed : Nat) : Nat := mixN ((seed + 11400714819323198485) % 18446744073709551616)
theorem keyN_lt (seed : Nat) : keyN seed < 18446744073709551616 := mixN_lt _

theorem mixA_run {n : Nat} (hn : n < 18446744073709551616) : IntKind.u64.wrap (bits .xor .u64 (n : Int) ((n : Int) / 1073741824) * 13787848793156543929) = ((mixA n : Nat) : Int) := mixStep_u64 n 1073741824 13787848793156543929 hn
theorem mixB_run {n : Nat} (hn : n < 18446744073709551616) : IntKind.u64.wrap (bits .xor .u64 (n : Int) ((n : Int) / 134217728) * 10723151780598845931) = ((mixB n : Nat) : Int) := mixStep_u64 n 134217728 10723151780598845931 hn
theorem mixC_run {n : Nat} (hn : n < 18446744073709551616) : bits .xor .u64 (n : Int) ((n : Int) / 2147483648) = ((mixC n : Nat) : Int) := xorShift_u64 n 2147483648 hn

theorem mix (n : Nat) (hn : n < 18446744073709551616) (w : World) : Calls Tryz.prog 125 #[.int .u64 n] w fun e w' => e = .returned (.int .u64 (mixN n)) ∧ w = w' := by
  go_enter Tryz.func125, Tryz.ntmps125
  go_wp2
  go_ret
  exact ⟨ret_int (by rw [mixA_run hn, mixB_run (mixA_lt n), mixC_run (mixB_lt _)]; rfl), rfl⟩

theorem against (n by' : Nat) (hn : n < 18446744073709551616) (hb : by' ≤ 64) (w : World) : Calls Tryz.prog 163 #[.int .u64 n, .int .i64 by'] w fun e w' => e = .returned (.int .u64 (n ^^^ n / 2 ^ by' : Nat)) ∧ w = w' := by
  go_enter Tryz.func163, Tryz.ntmps163
  go_wp2_with fail
  go_loopw [5, 6] (fun m i wr => ∃ j : Nat, j ≤ by' ∧ i = .int .i64 j ∧ m = .int .u64 (n / 2 ^ j : Nat) ∧ w = wr) (fun _ i _ => by' - (intOf i).toNat)
  case atStart => exact ⟨0, Nat.zero_le _, rfl, by simp, rfl⟩
  case round =>
    obtain ⟨j, hj, rfl, rfl, rfl⟩ := hrel
    obtain ⟨q, hq⟩ : ∃ q, q = n / 2 ^ j := ⟨_, rfl⟩
    have hqn : q < 18446744073709551616 := by rw [hq]; exact Nat.lt_of_le_of_lt (Nat.div_le_self _ _) hn
    rw [← hq]
    have HQ := Lib.hid hq
    clear hq
    by_cases h1 : j < by'
    · go_wp2_with fail
      go_roundw
      case rel => exact ⟨j + 1, by omega, by go_num, by rw [Nat.pow_succ, ← Nat.div_div_eq_div_mul, ← HQ.out]; go_num, trivial⟩
      case measure => simp [intOf]; omega
    · obtain rfl : j = by' := by omega
      go_wp2_with fail
      go_ret
      exact ⟨ret_int (by rw [bits_xor_u64_nat n q hn hqn, HQ.out]), rfl⟩

theorem ref_mix (n : Nat) (hn : n < 18446744073709551616) (w : World) : Calls Tryz.prog 131 #[.int .u64 n] w fun e w' => e = .returned (.int .u64 (mixN n)) ∧ w = w' := by
  go_enter Tryz.func131, Tryz.ntmps131
  go_wp2_with fail
  refine (against n 30 hn (by decide) w).mono ?_
  rintro e w' ⟨rfl, rfl⟩
  go_wp2_with fail
  have hA : IntKind.u64.wrap ((n ^^^ n / 2 ^ 30 : Nat) * 13787848793156543929) = ((mixA n : Nat) : Int) := by rw [IntKind.wrap_u64, show (2 : Nat) ^ 30 = 1073741824 from rfl]; unfold mixA; omega
  rw [hA]
  refine (against (mixA n) 27 (mixA_lt n) (by decide) w).mono ?_
  rintro e w' ⟨rfl, rfl⟩
  go_wp2_with fail
  have hB : IntKind.u64.wrap ((mixA n ^^^ mixA n / 2 ^ 27 : Nat) * 10723151780598845931) = ((mixB (mixA n) : Nat) : Int) := by rw [IntKind.wrap_u64, show (2 : Nat) ^ 27 = 134217728 from rfl]; unfold mixB; omega
  rw [hB]
  refine (against (mixB (mixA n)) 31 (mixB_lt _) (by decide) w).mono ?_
  rintro e w' ⟨rfl, rfl⟩
  go_wp2_with fail
  go_ret
  exact ⟨ret_int rfl, rfl⟩

theorem ref_key (n : Nat) (w : World) : Calls Tryz.prog 129 #[.int .u64 n] w fun e w' => e = .returned (.int .u64 (keyN n)) ∧ w = w' := by
  go_enter Tryz.func129, Tryz.ntmps129
  go_wp2_with fail
  have h : IntKind.u64.wrap ((n : Int) + 11400714819323198485) = (((n + 11400714819323198485) % 18446744073709551616 : Nat) : Int) := by rw [IntKind.wrap_u64]; omega
  rw [h]
  refine (ref_mix _ (Nat.mod_lt _ (by decide)) w).mono ?_
  rintro e w' ⟨rfl, rfl⟩
  go_wp2_with fail
  go_ret
  exact ⟨rfl, rfl⟩

end Go.Proofs.YtacoingheieceaaGreat

/- What sync.Once does for a hasher's key, in one goroutine: the lock, the two calls that it defers, the function that it is handed. -/
namespace Go.Proofs.YtacoingheieceaaGreat
set_option maxRecDepth 100000
open Go.RowKit

abbrev muLink : Go.Conc.Locks.MuLink := { lock := 187, unlock := 188, ilock := 192, iunlock := 193, lockSlow := 200, unlockSlow := 203, disable := 196, enable := 198, acquire := 199, relMerge := 201, cas32 := 197, add32 := 202, tMutex := 160, tIMutex := 158, tPMutex := 240, tPIMutex := 243, tPI32 := 245, tUP := 247, tNoCopy := 154, tU32 := 35 }
theorem muLib : Go.Conc.Locks.MuLib Tryz.prog muLink where
  f_lock := Tryz.func187
  f_unlock := Tryz.func188
  f_ilock := Tryz.func192
  f_iunlock := Tryz.func193
  f_disable := Tryz.func196
  f_enable := Tryz.func198
  f_acquire := Tryz.func199
  f_relMerge := Tryz.func201
  f_cas32 := Tryz.func197
  f_add32 := Tryz.func202
  underlying_tIMutex := Tryz.underlying158
  runUnderlying_tIMutex := Tryz.runUnderlying158
  sizeOf_tIMutex := Tryz.sizeOf158
  isAgg_tIMutex := Tryz.isAgg158
  zeroValue_tIMutex := Tryz.zeroValue158
  underlying_tMutex := Tryz.underlying160
  runUnderlying_tMutex := Tryz.runUnderlying160
  sizeOf_tMutex := Tryz.sizeOf160
  isAgg_tMutex := Tryz.isAgg160
  zeroValue_tMutex := Tryz.zeroValue160
  underlying_tPMutex := Tryz.underlying240
  runUnderlying_tPMutex := Tryz.runUnderlying240
  sizeOf_tPMutex := Tryz.sizeOf240
  isAgg_tPMutex := Tryz.isAgg240
  zeroValue_tPMutex := Tryz.zeroValue240
  underlying_tPIMutex := Tryz.underlying243
  runUnderlying_tPIMutex := Tryz.runUnderlying243
  sizeOf_tPIMutex := Tryz.sizeOf243
  isAgg_tPIMutex := Tryz.isAgg243
  zeroValue_tPIMutex := Tryz.zeroValue243
  underlying_tPI32 := Tryz.underlying245
  runUnderlying_tPI32 := Tryz.runUnderlying245
  sizeOf_tPI32 := Tryz.sizeOf245
  isAgg_tPI32 := Tryz.isAgg245
  zeroValue_tPI32 := Tryz.zeroValue245
  underlying_tUP := Tryz.underlying247
  runUnderlying_tUP := Tryz.runUnderlying247
  sizeOf_tUP := Tryz.sizeOf247
  isAgg_tUP := Tryz.isAgg247
  zeroValue_tUP := Tryz.zeroValue247
  underlying_tNoCopy := Tryz.underlying154
  runUnderlying_tNoCopy := Tryz.runUnderlying154
  sizeOf_tNoCopy := Tryz.sizeOf154
  isAgg_tNoCopy := Tryz.isAgg154
  zeroValue_tNoCopy := Tryz.zeroValue154
  underlying_t21 := Tryz.underlying21
  runUnderlying_t21 := Tryz.runUnderlying21
  sizeOf_t21 := Tryz.sizeOf21
  isAgg_t21 := Tryz.isAgg21
  zeroValue_t21 := Tryz.zeroValue21
  room_tIMutex := by kernel_rfl

/-- Whether the key is there: stored by a deferred call. -/
theorem bool_store (a : Addr) (x : Value) (u : FrameMode) (w : World) (hc : w.cell? a = some x) (hz : w.frozen? a = false) :
    CallsD Tryz.prog 189 #[.pointer (some a), .bool true] u w fun e u' w' => u' = u ∧ (e = .returned (.tuple #[]) ∧ w' = w.drew.setCell a (.int .u32 1)) := by
  have hst := run_call_store (P := Tryz.prog) Tryz.func194 (by kernel_rfl) (by kernel_rfl) (by kernel_rfl) (by kernel_rfl) (k := .u32) (y := 1) (w := w.drew) (a := a) (u := x) (by go_simp) (by go_simp)
  go_enter_d Tryz.func189, Tryz.ntmps189
  go_wp2
  go_region_calls
  all_goals (go_end0; exact ⟨rfl, rfl⟩)

theorem seed_run (seed : Nat) : IntKind.u64.wrap ((seed : Int) + 11400714819323198485) = (((seed + 11400714819323198485) % 18446744073709551616 : Nat) : Int) := by rw [IntKind.wrap_u64]; omega
/-- What computes the key. -/
theorem keyed (b seed : Nat) (pl : Addr) (x : Value) (w : World) (hp : w.cell? pl = some (.pointer (some ⟨b, 0, none⟩))) (c0 : w.cell? ⟨b, 0, none⟩ = some (.int .u64 seed)) (c4 : w.cell? ⟨b, 4, none⟩ = some x) (f4 : w.frozen? ⟨b, 4, none⟩ = false) :
    Calls Tryz.prog 154 #[.pointer (some pl)] w fun e w' => e = .returned (.tuple #[]) ∧ w' = w.drew.setCell ⟨b, 4, none⟩ (.int .u64 (keyN seed)) := by
  go_enter Tryz.func154, Tryz.ntmps154
  go_wp2_with fail
  go_region_with (go_at_call 125; rw [seed_run]; refine (mix _ (Nat.mod_lt _ (by decide)) _).mono ?_; rintro e w' ⟨rfl, rfl⟩)
  all_goals (go_end0; exact ⟨rfl, rfl⟩)

/-- Block b is a hasher: its seed; whether its key is there; its lock; its key. -/
def Row (w : World) (b seed : Nat) (d st : Int) (q key : Nat) : Prop :=
  w.heap[b]? = some (.cells #[.int .u64 seed, .int .u32 d, .int .i32 st, .int .u32 q, .int .u64 key] 164 (0, 0))
section
variable {w w' : World} {b seed q key : Nat} {d st : Int}
theorem Row.c0 (h : Row w b seed d st q key) : w.cell? ⟨b, 0, none⟩ = some (.int .u64 seed) := by simpa using cell_of_row w b 0 _ _ (0, 0) h
theorem Row.c1 (h : Row w b seed d st q key) : w.cell? ⟨b, 1, none⟩ = some (.int .u32 d) := by simpa using cell_of_row w b 1 _ _ (0, 0) h
theorem Row.c2 (h : Row w b seed d st q key) : w.cell? ⟨b, 2, none⟩ = some (.int .i32 st) := by simpa using cell_of_row w b 2 _ _ (0, 0) h
theorem Row.c4 (h : Row w b seed d st q key) : w.cell? ⟨b, 4, none⟩ = some (.int .u64 key) := by simpa using cell_of_row w b 4 _ _ (0, 0) h
theorem Row.fz (h : Row w b seed d st q key) (i : Nat) : w.frozen? ⟨b, i, none⟩ = false := frozen_of_row w b i _ _ h
theorem Row.set1 (h : Row w b seed d st q key) (x : Int) : Row (w.setCell ⟨b, 1, none⟩ (.int .u32 x)) b seed x st q key := by
  have := heap_setCell_same w b 1 _ _ (.int .u32 x) h
  simpa [Row] using this
theorem Row.set2 (h : Row w b seed d st q key) (x : Int) : Row (w.setCell ⟨b, 2, none⟩ (.int .i32 x)) b seed d x q key := by
  have := heap_setCell_same w b 2 _ _ (.int .i32 x) h
  simpa [Row] using this
theorem Row.set4 (h : Row w b seed d st q key) (x : Nat) : Row (w.setCell ⟨b, 4, none⟩ (.int .u64 x)) b seed d st q x := by
  have := heap_setCell_same w b 4 _ _ (.int .u64 x) h
  simpa [Row] using this
theorem Row.drew (h : Row w b seed d st q key) : Row w.drew b seed d st q key := h
theorem Row.lt (h : Row w b seed d st q key) : b < w.heap.size := (Array.getElem?_eq_some_iff.1 h).1
theorem Row.below (h : Row w b seed d st q key) (hb : Below w.heap.size w w') : Row w' b seed d st q key := (hb.block b h.lt).trans h
theorem Row.grown (h : Row w b seed d st q key) {row : Option Nat} (hg : w.grownBy w' row) (hb : some b ≠ row) : Row w' b seed d st q key := (hg.block b h.lt hb).trans h
end

set_option maxRecDepth 100000 in
set_option maxHeartbeats 1600000 in
theorem slow (b seed q key : Nat) (pl : Addr) (hpb : ¬ b = pl.block) (w : World) (hp : w.cell? pl = some (.pointer (some ⟨b, 0, none⟩))) (h : Row w b seed 0 0 q key) :
    Calls Tryz.prog 176 #[.pointer (some ⟨b, 1, none⟩), .func (.func 154) #[] #[.pointer (some pl)]] w fun e w' => e = .returned (.tuple #[]) ∧
      w' = ((((w.setCell ⟨b, 2, none⟩ (.int .i32 1)).drew.setCell ⟨b, 4, none⟩ (.int .u64 (keyN seed))).drew.setCell ⟨b, 1, none⟩ (.int .u32 1)).setCell ⟨b, 2, none⟩ (.int .i32 0)) := by
  have r1 := h.set2 1
  have hp1 : (w.setCell ⟨b, 2, none⟩ (.int .i32 1)).cell? pl = some (.pointer (some ⟨b, 0, none⟩)) := (World.cell?_setCell_other _ ⟨b, 2, none⟩ pl _ (fun h => hpb (by rw [← h]))).trans hp
  have r2 := (r1.drew.set4 (keyN seed))
  have hl := run_call_load (P := Tryz.prog) Tryz.func186 (by kernel_rfl) (by kernel_rfl) (by kernel_rfl) .u32 (by kernel_rfl) r1.c1
  have hnot : ∀ (x : Bool) (w : World), (Op.unary .not (.bool x)).run Tryz.prog w = .ok (.bool (!x)) w := fun _ _ => rfl
  go_enter_defers Tryz.func176, Tryz.ntmps176
  go_wp2_with (first | (go_at_call 187; refine (Go.MuLone.lock_free muLib ⟨b, 2, none⟩ _ h.c2 (h.fz 2)).mono ?_; rintro e w' ⟨rfl, rfl⟩) | (go_at_call 175; go_in) | (go_at_call 154; refine (keyed b seed pl _ _ hp1 r1.c0 r1.c4 (r1.fz 4)).mono ?_; rintro e w' ⟨rfl, rfl⟩))
  refine leaves_cons (f := 189) (args := #[.pointer (some ⟨b, 1, none⟩), .bool true]) (by simp) (by simp [go_sem]) ?_
  refine (bool_store ⟨b, 1, none⟩ _ .returning _ r2.c1 (r2.fz 1)).mono ?_
  rintro e u' w'' ⟨rfl, rfl, rfl⟩
  refine leaves_cons (f := 188) (args := #[.pointer (some ⟨b, 2, none⟩)]) (by simp [settle]) (by simp [go_sem]) ?_
  refine (Go.MuLone.unlock_deferred muLib ⟨b, 2, none⟩ _ _ (r2.drew.set1 1).c2 ((r2.drew.set1 1).fz 2)).mono ?_
  rintro e u' w'' ⟨rfl, rfl, rfl⟩
  simp [Leaves, settle, results, Tryz.results176]

end Go.Proofs.YtacoingheieceaaGreat

/- Slices of bytes: what one reads as; rows of bytes of a call's own; appending and converting. Of the dump only the numbers of the types uint8, []uint8 and string. -/
namespace Go.Proofs.YtacoingheieceaaGreat
open Go.RowKit

/-- Bytes as cells. -/
def bc (l : List UInt8) : List Value := l.map fun b => Value.int .u8 (b.toNat : Int)
theorem bc_length (l : List UInt8) : (bc l).length = l.length := by simp [bc]
theorem bc_append (l m : List UInt8) : bc (l ++ m) = bc l ++ bc m := by simp [bc]
theorem bc_at (l : List UInt8) (j : Nat) : (bc l)[j]? = l[j]?.map fun b => Value.int .u8 (b.toNat : Int) := by simp [bc]
theorem bc_one (l : List UInt8) : ∀ u ∈ bc l, u.oneCell' = true := by
  intro u hu
  obtain ⟨b, _, rfl⟩ := List.mem_map.1 hu
  rfl
theorem bc_str (s : ByteArray) : Lib.strCells s = bc s.data.toList := rfl

theorem u8_info : (Tryz.prog.info? 5).map (fun i => (i.zero, i.size, i.bytes)) = some (some (.int .u8 0), 1, 1) := by kernel_rfl

/-- The slice value v reads as the bytes l. -/
def Bs (w : World) (v : Value) (l : List UInt8) : Prop :=
  (v = .slice none 0 0 ∧ l = []) ∨ ∃ (a : Addr) (c : Nat), v = .slice (some a) l.length c ∧ l.length ≤ c ∧ c ≤ maxLen ∧ ∀ j x, l[j]? = some x → w.cell? (a.add j) = some (.int .u8 (x.toNat : Int))

/-- The slice value v is a row of the call's own (from block B on), and holds the bytes l. -/
def Own (w : World) (B : Nat) (v : Value) (l : List UInt8) : Prop := w.ownsRow B 5 1 v l.length (bc l)

section
variable {w w' : World} {v : Value} {l m : List UInt8} {B : Nat}
theorem Bs.nil (w : World) : Bs w (.slice none 0 0) [] := .inl ⟨rfl, rfl⟩
theorem Bs.form (h : Bs w v l) : ∃ A c, v = .slice A l.length c ∧ l.length ≤ c := by
  rcases h with ⟨rfl, rfl⟩ | ⟨a, c, rfl, hc, _⟩
  · exact ⟨none, 0, rfl, Nat.le_refl _⟩
  · exact ⟨_, c, rfl, hc⟩
theorem Bs.keep (h : Bs w v l) (hk : ∀ (p : Addr) u, w.cell? p = some u → v.ownBlock = some p.block → w'.cell? p = some u) : Bs w' v l := by
  rcases h with h | ⟨a, c, rfl, hc, hm, hx⟩
  · exact .inl h
  · refine .inr ⟨a, c, rfl, hc, hm, fun j x hj => hk _ _ (hx j x hj) ?_⟩
    unfold Addr.add; split <;> rfl
theorem Bs.below (h : Bs w v l) (hb : Below w.heap.size w w') : Bs w' v l :=
  h.keep fun p _ hu _ => (hb.cell (World.block_lt_of_cell? w p hu)).trans hu
theorem Bs.grown (h : Bs w v l) {row : Option Nat} (hg : w.grownBy w' row) (hne : v.ownBlock = none ∨ v.ownBlock ≠ row) : Bs w' v l :=
  h.keep fun _ _ hu hv => hg.cell hu (fun e => by
    rcases hne with hn | hn
    · rw [hn] at hv; cases hv
    · exact hn (hv.trans e))
theorem Bs.alloc (h : Bs w v l) (o : Obj) : Bs (w.alloc o) v l := h.below ((Below.refl _ _).alloc (Nat.le_refl _) o)
theorem Bs.drew (h : Bs w v l) : Bs w.drew v l := h
theorem Bs.drewN (h : Bs w v l) (n : Nat) : Bs (w.drewN n) v l := h
/-- A byte of it, at an address as the walk spells it. -/
theorem Bs.at (h : Bs w v l) {j : Nat} (hj : j < l.length) : ∃ b o c, v = .slice (some ⟨b, o, none⟩) l.length c ∧ w.cell? ⟨b, o + j, none⟩ = some (.int .u8 (l[j].toNat : Int)) := by
  rcases h with ⟨_, rfl⟩ | ⟨⟨b, o, sp⟩, c, rfl, _, _, hx⟩
  · simp at hj
  · have h0 := hx 0 l[0] (List.getElem?_eq_getElem (by omega))
    obtain rfl : sp = none := by simpa [Addr.add] using World.cell?_spot h0
    refine ⟨b, o, c, rfl, ?_⟩
    have := hx j l[j] (List.getElem?_eq_getElem hj)
    rwa [show (⟨b, o, none⟩ : Addr).add j = ⟨b, o + j, none⟩ by unfold Addr.add; split <;> simp_all] at this

/-- What lies at its address. -/
theorem Bs.src {A : Option Addr} {n c : Nat} (h : Bs w (.slice A n c) l) (hp : 0 < l.length) : ∃ a, A = some a ∧ ∀ j u, (bc l)[j]? = some u → w.cell? (a.add j) = some u := by
  rcases h with ⟨_, rfl⟩ | ⟨a, c', e, _, _, hx⟩
  · simp at hp
  · injection e with e1
    refine ⟨a, e1, fun j u hu => ?_⟩
    rw [bc_at] at hu
    obtain ⟨x, hx', rfl⟩ := Option.map_eq_some_iff.1 hu
    exact hx j x hx'

theorem Own.nil (w : World) (B : Nat) : Own w B (.slice none 0 0) [] := World.ownsRow_nil w B _ 1
theorem Own.bs (h : Own w B v l) : Bs w v l := by
  rcases h.2 with ⟨rfl, hn⟩ | ⟨g, cap, cur, rfl, _, hg, hc, hm, _⟩
  · exact .inl ⟨rfl, List.eq_nil_of_length_eq_zero hn⟩
  · exact .inr ⟨_, cap, rfl, hc, hm, fun j x hj => World.ownsRow.cells h rfl j _ (by rw [bc_at, hj]; rfl)⟩
theorem Own.grown (h : Own w B v l) {row : Option Nat} (hg : w.grownBy w' row) (hne : v.ownBlock = none ∨ v.ownBlock ≠ row) : Own w' B v l := World.ownsRow.kept h hg hne
theorem grownBy_of_below (hb : Below w.heap.size w w') (row : Option Nat) : w.grownBy w' row := ⟨hb.os, hb.tape, hb.output, hb.size, fun k hk _ => hb.block k hk⟩
theorem Own.below (h : Own w B v l) (hb : Below w.heap.size w w') : Own w' B v l := h.grown (grownBy_of_below hb none) (by cases v.ownBlock <;> simp)
theorem Own.alloc (h : Own w B v l) (o : Obj) : Own (w.alloc o) B v l := h.below ((Below.refl _ _).alloc (Nat.le_refl _) o)
theorem Own.drew (h : Own w B v l) : Own w.drew B v l := h
theorem Own.drewN (h : Own w B v l) (n : Nat) : Own (w.drewN n) B v l := h
theorem Own.less {B' : Nat} (h : Own w B v l) (hB : B' ≤ B) : Own w B' v l := by
  refine ⟨h.1, ?_⟩
  rcases h.2 with hn | ⟨g, cap, cur, hv, hb, rest⟩
  · exact .inl hn
  · exact .inr ⟨g, cap, cur, hv, Nat.le_trans hB hb, rest⟩
theorem Own.blk (h : Own w B v l) : ∀ k, v.ownBlock = some k → B ≤ k ∧ k < w.heap.size := World.ownsRow.lt h
/-- A row that one literal made. -/
theorem Own.lit (w : World) (l : List UInt8) (hB : B ≤ w.heap.size) (hl : l.length ≤ maxLen) : Own (w.alloc (.cells (bc l).toArray 5)) B (.slice (some ⟨w.heap.size, 0, none⟩) l.length l.length) l := by
  have := World.ownsRow_lit (base := B) (e := 5) (size := 1) w (bc l).toArray l.length hB hl (by simp [bc_length])
  exact this
theorem Own.single (w : World) (z : Int) (x : UInt8) (h : z = (x.toNat : Int)) (hB : B ≤ w.heap.size) : Own (w.alloc (.cells #[.int .u8 z] 5)) B (.slice (some ⟨w.heap.size, 0, none⟩) 1 1) [x] := by
  have := Own.lit (B := B) w [x] hB (by unfold maxLen; simp)
  simpa [bc, h] using this
theorem Own.boxed (w : World) (o : Obj) (z : Int) (x : UInt8) (h : z = (x.toNat : Int)) : Own ((w.alloc o).alloc (.cells #[.int .u8 z] 5)) w.heap.size (.slice (some ⟨w.heap.size + 1, 0, none⟩) 1 1) [x] := by
  have := Own.single (B := w.heap.size) (w.alloc o) z x h (by simp)
  simpa using this
/-- One byte, in a block of its own. -/
theorem Bs.single (w : World) (z : Int) (x : UInt8) (t : TypeId) (h : z = (x.toNat : Int)) (b : Nat) (hb : b = w.heap.size) : Bs (w.alloc (.cells #[.int .u8 z] t)) (.slice (some ⟨b, 0, none⟩) 1 1) [x] := by
  subst hb
  refine .inr ⟨_, 1, rfl, Nat.le_refl _, by unfold maxLen; omega, fun j y hj => ?_⟩
  match j, hj with
  | 0, hj => simp at hj; subst hj; simp [Addr.add, go_sem, h]
end

theorem below_trans {a b c : World} (h : Below a.heap.size a b) (k : Below b.heap.size b c) : Below a.heap.size a c := h.trans (k.mono h.size)
theorem below_drawn {a w : World} {B : Nat} (h : Below B a w) (n : Nat) : Below B a (w.drewN n) where
  os := h.os
  tape := h.tape
  output := h.output
  size := h.size
  block := h.block

/-- A row's own growing, seen from the world in which the call began. -/
theorem below_ownB {a w w' : World} {v : Value} {l : List UInt8} (hb : Below a.heap.size a w) (hown : Own w a.heap.size v l) (hg : w.grownBy w' v.ownBlock) : Below a.heap.size a w' :=
  hb.grown hg hb.size fun k e => (hown.blk k e).1

section
variable {P : Program} {w : World}

theorem run_append_bs (B : Nat) (t ty : TypeId) (i : TypeInfo) (ht : P.underlying t = some (.slice 5)) (hi : P.info? 5 = some i) (hz : i.zero = some (.int .u8 0)) (hsize : i.size = 1) (hby : i.bytes = 1)
    (v : Value) (l : List UInt8) (hown : Own w B v l) (y : Value) (m : List UInt8) (hy : Bs w y m) (h47 : l.length + m.length ≤ 140737488355328) (hB : B ≤ w.heap.size) :
    ∃ v' w', (Builtin.append_ #[t, t] ty #[v, y]).run P w = .ok v' w' ∧ Own w' B v' (l ++ m) ∧ w.grownBy w' v.ownBlock := by
  rcases hy with ⟨rfl, rfl⟩ | ⟨a, c, rfl, _, _, hc⟩
  · refine ⟨v, w, run_append_owned_none w B t ty 5 i 1 ht hi v _ _ hown, by simpa using hown, ⟨rfl, rfl, rfl, Nat.le_refl _, fun _ _ _ => rfl⟩⟩
  · obtain ⟨v', w', hr, ho, hg, _⟩ := run_append_own (P := P) w B t ty 5 i (.int .u8 0) 1 1 ht hi hz hsize hby rfl (by decide) v l.length (bc l) hown a m.length c (bc m) (by simp [bc_length])
      (fun j u hu => by
        rw [bc_at] at hu
        obtain ⟨x, hx, rfl⟩ := Option.map_eq_some_iff.1 hu
        exact hc j x hx) (bc_one m) (by unfold maxLen; omega) (by omega) hB
    exact ⟨v', w', hr, by unfold Own; rw [bc_append, List.length_append]; exact ho, hg⟩

theorem wpList_append_bs {ops : Array Oper} {rest : List Oper} {o : Oper} {a : Act} {Q : Exit → Act → World → Prop} (hgd : o.guard = none) (s x : Operand) (t : TypeId)
    (ho : o.op = .call { callee := .builtin .append, args := #[s, x], argTypes := #[t, t] })
    (B : Nat) (i : TypeInfo) (ht : P.underlying t = some (.slice 5)) (hi : P.info? 5 = some i) (hz : i.zero = some (.int .u8 0)) (hsize : i.size = 1) (hby : i.bytes = 1)
    (v : Value) (l : List UInt8) (hs : a.eval s = v) (hown : Own w B v l) (y : Value) (m : List UInt8) (hx : a.eval x = y) (hy : Bs w y m) (h47 : l.length + m.length ≤ 140737488355328) (hB : B ≤ w.heap.size)
    (h : ∀ v' w', Own w' B v' (l ++ m) → w.grownBy w' v.ownBlock → wpList P ops Q rest (a.put o.dst v') w') : wpList P ops Q (o :: rest) a w := by
  obtain ⟨v', w', hrun, h2, h3⟩ := run_append_bs (P := P) (w := w) B t o.type i ht hi hz hsize hby v l hown y m hy h47 hB
  refine wpList_plain hgd fun K hK => ?_
  unfold Oper.wp execOp
  simp only [ho, resolve, invoke, builtin, Sem.run_bind, Sem.run_pure, Result.andThen_ok, List.map_toArray, List.map_cons, List.map_nil, hs, hx, hrun]
  exact hK _ _ (h v' w' h2 h3)

/-- append(b, s...) of a string's bytes. -/
theorem wpList_append_str {ops : Array Oper} {rest : List Oper} {o : Oper} {a : Act} {Q : Exit → Act → World → Prop} (hgd : o.guard = none) (sl x : Operand) (t u : TypeId)
    (ho : o.op = .call { callee := .builtin .append, args := #[sl, x], argTypes := #[t, u] })
    (B : Nat) (i : TypeInfo) (ht : P.underlying t = some (.slice 5)) (hu : P.underlying u = some .string) (hi : P.info? 5 = some i) (hz : i.zero = some (.int .u8 0)) (hsize : i.size = 1) (hby : i.bytes = 1)
    (v : Value) (l : List UInt8) (hs : a.eval sl = v) (hown : Own w B v l) (s : ByteArray) (hx : a.eval x = .string s) (h47 : l.length + s.size ≤ 140737488355328) (hB : B ≤ w.heap.size)
    (h : ∀ v' w', Own w' B v' (l ++ s.data.toList) → w.grownBy w' v.ownBlock → wpList P ops Q rest (a.put o.dst v') w') : wpList P ops Q (o :: rest) a w :=
  Lib.wpList_append_own_string w hgd sl x t u ho B 5 i ht hu hi hz hsize hby v l.length (bc l) hs hown s hx (by unfold maxLen; omega) h47 hB fun v' w' h2 h3 _ =>
    h v' w' (by unfold Own; rw [bc_append, List.length_append, Array.length_toList]; exact h2) h3

/-- string(b). -/
theorem run_str {src dst : TypeId} {v : Value} {l : List UInt8} (hs : P.underlying src = some (.slice 5)) (he : P.underlying 5 = some (.int .u8)) (hd : P.underlying dst = some .string) (h : Bs w v l) :
    (convert src dst v).run P w = .ok (.string ⟨l.toArray⟩) w := by
  have e0 : (⟨([] : List UInt8).toArray⟩ : ByteArray) = ByteArray.empty := rfl
  have empty : ∀ (A : Option Addr) c, l = [] → (convert src dst (.slice A 0 c)).run P w = .ok (.string ⟨l.toArray⟩) w := fun A c hl => by
    subst hl
    rw [run_convert_bytes_string w src dst 5 _ 0 c hs he hd]
    cases A with
    | none => simp [Conv.bytesToString, e0]
    | some a => rw [run_bytesToString w a 0 c [] (by simp [loadCells, loadCellsFrom])]; rfl
  by_cases hl : l = []
  · obtain ⟨A, c, rfl, _⟩ := h.form
    rw [show l.length = 0 by simp [hl]]
    exact empty A c hl
  · have hpos : 0 < l.length := List.length_pos_iff.2 hl
    obtain ⟨b, o, c, rfl, _⟩ := h.at hpos
    have key := run_convert_bytes_arg (P := P) w src 5 hs he b o l.length c (l.map fun x => (x.toNat : Int)) (by simp) (fun i hi => by
      obtain ⟨b', o', c', e, hc⟩ := h.at hi
      simp only [Value.slice.injEq, Option.some.injEq, Addr.mk.injEq, and_true, true_and] at e
      obtain ⟨⟨rfl, rfl⟩, rfl⟩ := e
      rw [hc]
      simp [List.getD, List.getElem?_eq_getElem hi]) dst hd
    rw [key]
    congr 2
    unfold strOfNums
    congr 1
    apply Array.ext'
    simp only [List.map_map]
    conv => rhs; rw [← List.map_id l]
    apply List.map_congr_left
    intro x _
    simp
end

end Go.Proofs.YtacoingheieceaaGreat

/- What sync.Once does for a hasher's key, in one goroutine: the lock, the two calls that it defers, the function that it is handed. -/
import Derived.Test.YtfmngoniofoiiaaMix03
import Derived.Conc.MuLone
import Derived.Defers
import Derived.RegionTactic
import Derived.RegionCalls
import Derived.Deep.RegionWith
import Derived.Laws.NewBlocks
import Derived.Laws.Pointers
import Derived.DataElems
import Derived.Maps.AppendAt
namespace Go.Proofs.Ytfmngoniofoiiaa
open Go.RowKit

abbrev muLink : Go.Conc.Locks.MuLink := { lock := 31, unlock := 32, ilock := 34, iunlock := 35, lockSlow := 42, unlockSlow := 45, disable := 38, enable := 40, acquire := 41, relMerge := 43, cas32 := 39, add32 := 44, tMutex := 52, tIMutex := 50, tPMutex := 74, tPIMutex := 77, tPI32 := 79, tUP := 81, tNoCopy := 44, tU32 := 46 }
theorem muLib : Go.Conc.Locks.MuLib Try.prog muLink where
  f_lock := Try.func31
  f_unlock := Try.func32
  f_ilock := Try.func34
  f_iunlock := Try.func35
  f_disable := Try.func38
  f_enable := Try.func40
  f_acquire := Try.func41
  f_relMerge := Try.func43
  f_cas32 := Try.func39
  f_add32 := Try.func44
  underlying_tIMutex := Try.underlying50
  runUnderlying_tIMutex := Try.runUnderlying50
  sizeOf_tIMutex := Try.sizeOf50
  isAgg_tIMutex := Try.isAgg50
  zeroValue_tIMutex := Try.zeroValue50
  underlying_tMutex := Try.underlying52
  runUnderlying_tMutex := Try.runUnderlying52
  sizeOf_tMutex := Try.sizeOf52
  isAgg_tMutex := Try.isAgg52
  zeroValue_tMutex := Try.zeroValue52
  underlying_tPMutex := Try.underlying74
  runUnderlying_tPMutex := Try.runUnderlying74
  sizeOf_tPMutex := Try.sizeOf74
  isAgg_tPMutex := Try.isAgg74
  zeroValue_tPMutex := Try.zeroValue74
  underlying_tPIMutex := Try.underlying77
  runUnderlying_tPIMutex := Try.runUnderlying77
  sizeOf_tPIMutex := Try.sizeOf77
  isAgg_tPIMutex := Try.isAgg77
  zeroValue_tPIMutex := Try.zeroValue77
  underlying_tPI32 := Try.underlying79
  runUnderlying_tPI32 := Try.runUnderlying79
  sizeOf_tPI32 := Try.sizeOf79
  isAgg_tPI32 := Try.isAgg79
  zeroValue_tPI32 := Try.zeroValue79
  underlying_tUP := Try.underlying81
  runUnderlying_tUP := Try.runUnderlying81
  sizeOf_tUP := Try.sizeOf81
  isAgg_tUP := Try.isAgg81
  zeroValue_tUP := Try.zeroValue81
  underlying_tNoCopy := Try.underlying44
  runUnderlying_tNoCopy := Try.runUnderlying44
  sizeOf_tNoCopy := Try.sizeOf44
  isAgg_tNoCopy := Try.isAgg44
  zeroValue_tNoCopy := Try.zeroValue44
  underlying_t21 := Try.underlying21
  runUnderlying_t21 := Try.runUnderlying21
  sizeOf_t21 := Try.sizeOf21
  isAgg_t21 := Try.isAgg21
  zeroValue_t21 := Try.zeroValue21
  room_tIMutex := by kernel_rfl

/-- Whether the key is there: stored by a deferred call. -/
theorem bool_store (a : Addr) (x : Value) (u : FrameMode) (w : World) (hc : w.cell? a = some x) (hz : w.frozen? a = false) :
    CallsD Try.prog 33 #[.pointer (some a), .bool true] u w fun e u' w' => u' = u ∧ (e = .returned (.tuple #[]) ∧ w' = w.drew.setCell a (.int .u32 1)) := by
  have hst := run_call_store (P := Try.prog) Try.func36 (by kernel_rfl) (by kernel_rfl) (by kernel_rfl) (by kernel_rfl) (k := .u32) (y := 1) (w := w.drew) (a := a) (u := x) (by go_simp) (by go_simp)
  go_enter_d Try.func33, Try.ntmps33
  go_wp2
  go_region_calls
  all_goals (go_end0; exact ⟨rfl, rfl⟩)

theorem seed_run (seed : Nat) : IntKind.u64.wrap ((seed : Int) + 11400714819323198485) = (((seed + 11400714819323198485) % 18446744073709551616 : Nat) : Int) := by rw [IntKind.wrap_u64]; omega
/-- What computes the key. -/
theorem keyed (b seed : Nat) (pl : Addr) (x : Value) (w : World) (hp : w.cell? pl = some (.pointer (some ⟨b, 0, none⟩))) (c0 : w.cell? ⟨b, 0, none⟩ = some (.int .u64 seed)) (c4 : w.cell? ⟨b, 4, none⟩ = some x) (f4 : w.frozen? ⟨b, 4, none⟩ = false) :
    Calls Try.prog 24 #[.pointer (some pl)] w fun e w' => e = .returned (.tuple #[]) ∧ w' = w.drew.setCell ⟨b, 4, none⟩ (.int .u64 (keyN seed)) := by
  go_enter Try.func24, Try.ntmps24
  go_wp2_with fail
  go_region_with (go_at_call 12; rw [seed_run]; refine (mix _ (Nat.mod_lt _ (by decide)) _).mono ?_; rintro e w' ⟨rfl, rfl⟩)
  all_goals (go_end0; exact ⟨rfl, rfl⟩)

/-- Block b is a hasher: its seed; whether its key is there; its lock; its key. -/
def Row (w : World) (b seed : Nat) (d st : Int) (q key : Nat) : Prop :=
  w.heap[b]? = some (.cells #[.int .u64 seed, .int .u32 d, .int .i32 st, .int .u32 q, .int .u64 key] 56 (0, 0))
section
variable {w w' : World} {b seed q key : Nat} {d st : Int}
theorem Row.c0 (h : Row w b seed d st q key) : w.cell? ⟨b, 0, none⟩ = some (.int .u64 seed) := by simpa using cell_of_row w b 0 _ _ (0, 0) h
theorem Row.c1 (h : Row w b seed d st q key) : w.cell? ⟨b, 1, none⟩ = some (.int .u32 d) := by simpa using cell_of_row w b 1 _ _ (0, 0) h
theorem Row.c2 (h : Row w b seed d st q key) : w.cell? ⟨b, 2, none⟩ = some (.int .i32 st) := by simpa using cell_of_row w b 2 _ _ (0, 0) h
theorem Row.c4 (h : Row w b seed d st q key) : w.cell? ⟨b, 4, none⟩ = some (.int .u64 key) := by simpa using cell_of_row w b 4 _ _ (0, 0) h
theorem Row.fz (h : Row w b seed d st q key) (i : Nat) : w.frozen? ⟨b, i, none⟩ = false := frozen_of_row w b i _ _ h
theorem Row.set1 (h : Row w b seed d st q key) (x : Int) : Row (w.setCell ⟨b, 1, none⟩ (.int .u32 x)) b seed x st q key := by
  have := heap_setCell_same w b 1 _ _ (.int .u32 x) h
  simpa [Row] using this
theorem Row.set2 (h : Row w b seed d st q key) (x : Int) : Row (w.setCell ⟨b, 2, none⟩ (.int .i32 x)) b seed d x q key := by
  have := heap_setCell_same w b 2 _ _ (.int .i32 x) h
  simpa [Row] using this
theorem Row.set4 (h : Row w b seed d st q key) (x : Nat) : Row (w.setCell ⟨b, 4, none⟩ (.int .u64 x)) b seed d st q x := by
  have := heap_setCell_same w b 4 _ _ (.int .u64 x) h
  simpa [Row] using this
theorem Row.drew (h : Row w b seed d st q key) : Row w.drew b seed d st q key := h
theorem Row.lt (h : Row w b seed d st q key) : b < w.heap.size := (Array.getElem?_eq_some_iff.1 h).1
theorem Row.below (h : Row w b seed d st q key) (hb : Below w.heap.size w w') : Row w' b seed d st q key := (hb.block b h.lt).trans h
theorem Row.grown (h : Row w b seed d st q key) {row : Option Nat} (hg : w.grownBy w' row) (hb : some b ≠ row) : Row w' b seed d st q key := (hg.block b h.lt hb).trans h
end

set_option maxRecDepth 100000 in
set_option maxHeartbeats 1600000 in
theorem slow (b seed q key : Nat) (pl : Addr) (hpb : ¬ b = pl.block) (w : World) (hp : w.cell? pl = some (.pointer (some ⟨b, 0, none⟩))) (h : Row w b seed 0 0 q key) :
    Calls Try.prog 28 #[.pointer (some ⟨b, 1, none⟩), .func (.func 24) #[] #[.pointer (some pl)]] w fun e w' => e = .returned (.tuple #[]) ∧
      w' = ((((w.setCell ⟨b, 2, none⟩ (.int .i32 1)).drew.setCell ⟨b, 4, none⟩ (.int .u64 (keyN seed))).drew.setCell ⟨b, 1, none⟩ (.int .u32 1)).setCell ⟨b, 2, none⟩ (.int .i32 0)) := by
  have r1 := h.set2 1
  have hp1 : (w.setCell ⟨b, 2, none⟩ (.int .i32 1)).cell? pl = some (.pointer (some ⟨b, 0, none⟩)) := (World.cell?_setCell_other _ ⟨b, 2, none⟩ pl _ (fun h => hpb (by rw [← h]))).trans hp
  have r2 := (r1.drew.set4 (keyN seed))
  have hl := run_call_load (P := Try.prog) Try.func30 (by kernel_rfl) (by kernel_rfl) (by kernel_rfl) .u32 (by kernel_rfl) r1.c1
  have hnot : ∀ (x : Bool) (w : World), (Op.unary .not (.bool x)).run Try.prog w = .ok (.bool (!x)) w := fun _ _ => rfl
  go_enter_defers Try.func28, Try.ntmps28
  go_wp2_with (first | (go_at_call 31; refine (Go.MuLone.lock_free muLib ⟨b, 2, none⟩ _ h.c2 (h.fz 2)).mono ?_; rintro e w' ⟨rfl, rfl⟩) | (go_at_call 27; go_in) | (go_at_call 24; refine (keyed b seed pl _ _ hp1 r1.c0 r1.c4 (r1.fz 4)).mono ?_; rintro e w' ⟨rfl, rfl⟩))
  refine leaves_cons (f := 33) (args := #[.pointer (some ⟨b, 1, none⟩), .bool true]) (by simp) (by simp [go_sem]) ?_
  refine (bool_store ⟨b, 1, none⟩ _ .returning _ r2.c1 (r2.fz 1)).mono ?_
  rintro e u' w'' ⟨rfl, rfl, rfl⟩
  refine leaves_cons (f := 32) (args := #[.pointer (some ⟨b, 2, none⟩)]) (by simp [settle]) (by simp [go_sem]) ?_
  refine (Go.MuLone.unlock_deferred muLib ⟨b, 2, none⟩ _ _ (r2.drew.set1 1).c2 ((r2.drew.set1 1).fz 2)).mono ?_
  rintro e u' w'' ⟨rfl, rfl, rfl⟩
  simp [Leaves, settle, results, Try.results28]

end Go.Proofs.Ytfmngoniofoiiaa

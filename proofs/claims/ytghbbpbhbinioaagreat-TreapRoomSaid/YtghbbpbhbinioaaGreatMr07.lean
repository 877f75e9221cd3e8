/- Several texts in one. -/
import Derived.Test.YtghbbpbhbinioaaGreatMr06
import Derived.Deep.RegionHeld3
import Derived.Test.YtghbbpbhbinioaaGreatMr01
import Derived.Deep.DeepCutAuto
import Derived.Lib.AppendZerosOnto
import Derived.Lib.Overlaps
import Derived.Laws.Externs
import Derived.Shelf.Spec.SlicesInsert
import Derived.Deep.RegionLaw
import Derived.Lib.SliceRun
import Derived.Test.YtghbbpbhbinioaaGreatMr05
import Derived.Laws.Bits64b
import Derived.Lib.Hide
import Derived.LoopTactic
import Derived.Conc.MuLone
import Derived.Defers
import Derived.RegionTactic
import Derived.RegionCalls
import Derived.Deep.RegionWith
import Derived.Laws.NewBlocks
import Derived.Laws.Pointers
import Derived.DataElems
import Derived.Maps.AppendAt
import Derived.Test.YtghbbpbhbinioaaGreatProg
import Derived.Laws.OwnMore
import Derived.Lib.AppendStr
import Derived.Lib.ConvBytes
import Derived.Laws.BytesArg
import Derived.Lib.Endian
import Derived.OwnWalk
import Derived.Laws.CopyOwn
import Derived.Outline
namespace Go.Proofs.YtghbbpbhbinioaaGreat
open Go.RowKit

def kI (W : World) (g m : Nat) : Int := match W.cell? ⟨g, m, none⟩ with
  | some (.int _ u) => u
  | _ => 0
structure Sk (W : World) (z5 z6 z4 zn zf gk m n : Nat) (x : Wv) (o ca cb : Int) (v k fn : Value) : Prop where
  box : C5 W z5 94 (.int .u32 o) (.int .u32 ca) (.int .u32 cb) v k
  out : C5 W z6 94 (.int .u32 0) (.int .u32 0) (.int .u32 0) (.slice none 0 0) (.slice none 0 0)
  wy : WC W z4 x
  cn : W.cell? ⟨zn, 0, none⟩ = some (.int .i64 (n : Int))
  cf : W.cell? ⟨zf, 0, none⟩ = some fn
  kc : W.cell? ⟨gk, m, none⟩ = some (.int .i64 (kI W gk m))
  kf : W.frozen? ⟨gk, m, none⟩ = false
  ne : gk ≠ z5 ∧ gk ≠ z6 ∧ gk ≠ z4 ∧ gk ≠ zn ∧ gk ≠ zf
theorem Sk.drew {W : World} {z5 z6 z4 zn zf gk m n : Nat} {x : Wv} {o ca cb : Int} {v k fn : Value} (h : Sk W z5 z6 z4 zn zf gk m n x o ca cb v k fn) : Sk W.drew z5 z6 z4 zn zf gk m n x o ca cb v k fn := ⟨h.box, h.out, h.wy, h.cn, h.cf, h.kc, h.kf, h.ne⟩
theorem Sk.store {W : World} {z5 z6 z4 zn zf gk m n : Nat} {x : Wv} {o ca cb : Int} {v k fn : Value} (h : Sk W z5 z6 z4 zn zf gk m n x o ca cb v k fn) (u : Int) : Sk (W.setCell ⟨gk, m, none⟩ (.int .i64 u)) z5 z6 z4 zn zf gk m n x o ca cb v k fn := by
  have far : ∀ z y, gk ≠ z → W.cell? ⟨z, 0, none⟩ = some y → (W.setCell ⟨gk, m, none⟩ (.int .i64 u)).cell? ⟨z, 0, none⟩ = some y := fun z y hz hy => (World.cell?_setCell_other _ _ _ _ (fun e => hz (by injection e))).trans hy
  have hk := World.cell?_setCell_same W ⟨gk, m, none⟩ (.int .i64 u) h.kc
  exact ⟨h.box.other h.ne.1.symm _, h.out.other h.ne.2.1.symm _, (Below.heap_setCell W ⟨gk, m, none⟩ (.int .i64 u) z4 (fun e => h.ne.2.2.1 e.symm)).trans h.wy, far _ _ h.ne.2.2.2.1 h.cn, far _ _ h.ne.2.2.2.2 h.cf, by unfold kI; rw [hk], (World.frozen?_setCell _ _ _ _).trans h.kf, h.ne⟩

section
variable {most : Nat} {M1 : Cells} {F : Nat → Prop}
end
end Go.Proofs.YtghbbpbhbinioaaGreat

namespace Go.Proofs.YtghbbpbhbinioaaGreat
set_option maxRecDepth 100000
open Go.RowKit

section
end

end Go.Proofs.YtghbbpbhbinioaaGreat

namespace Go.Proofs.YtghbbpbhbinioaaGreat

end Go.Proofs.YtghbbpbhbinioaaGreat

namespace Go.Proofs.YtghbbpbhbinioaaGreat
open Go.RowKit

end Go.Proofs.YtghbbpbhbinioaaGreat

namespace Go.Proofs.YtghbbpbhbinioaaGreat
set_option maxRecDepth 100000
open Go.RowKit
section
end

end Go.Proofs.YtghbbpbhbinioaaGreat

namespace Go.Proofs.YtghbbpbhbinioaaGreat
open Go.RowKit

end Go.Proofs.YtghbbpbhbinioaaGreat

namespace Go.Proofs.YtghbbpbhbinioaaGreat
open Go.RowKit

theorem ChgS.mono {f : FuncId} {caps : Array Value} {b most : Nat} {F : Nat → Prop} {w : World} {M1 : Cells} {c : Hc} {R R' : Hc → Cells → Prop} (h : ChgS f caps b most F w M1 c R) (hR : ∀ c' M2, R c' M2 → R' c' M2) : ChgS f caps b most F w M1 c R' := by
  intro o v k W F1 h1 h2 h3 h4 h5
  refine (h o v k W F1 h1 h2 h3 h4 h5).mono ?_
  rintro e W' ⟨v', k', c', M2, F2, a1, a2, a3, a4, a5, a6, a7⟩
  exact ⟨v', k', c', M2, F2, a1, a2, a3, a4, a5, a6, hR _ _ a7⟩
section
variable {b most : Nat} {M : Cells} {F : Nat → Prop} {P : Nat → Nat}
theorem bk_rf {hs : List Nat} (hm : most ≤ 1048576) (hP : ∀ j, P j ≤ 576460752303423488) (hb : Bk (most + 1) M [] P hs) (hl : hs.length ≤ 64) (j : Nat) : rf (M j) ≤ 4611686018420000000 := by
  have h1 := hb.rfb j
  have h2 := hP j
  have h3 : hs.count j ≤ 64 := Nat.le_trans List.count_le_length hl
  have h4 : (most + 1) * 64 ≤ 1048577 * 64 := Nat.mul_le_mul_right _ (by omega)
  omega
end

end Go.Proofs.YtghbbpbhbinioaaGreat

namespace Go.Proofs.YtghbbpbhbinioaaGreat
set_option maxRecDepth 100000
open Go.RowKit

section
end

end Go.Proofs.YtghbbpbhbinioaaGreat

namespace Go.Proofs.YtghbbpbhbinioaaGreat
set_option maxRecDepth 100000


open Go.RowKit
structure Q3S (W : World) (zw zk zv zc : Nat) (x : Wv) (k v : Ky) (o ca cb : Int) (V K : Value) : Prop where
  wy : WC W zw x
  ck : C3 W zk 36 (.int .u8 k.1) (.int .i64 k.2.1) (.string k.2.2)
  cv : C3 W zv 36 (.int .u8 v.1) (.int .i64 v.2.1) (.string v.2.2)
  cc : C5 W zc 94 (.int .u32 o) (.int .u32 ca) (.int .u32 cb) V K
theorem Q3S.kp {W W' : World} {zw zk zv zc : Nat} {x : Wv} {k v : Ky} {o ca cb : Int} {V K : Value} {G : Nat → Prop} (h : Q3S W zw zk zv zc x k v o ca cb V K) (hk : Kp G W W') (hn : ¬ G zw ∧ ¬ G zk ∧ ¬ G zv ∧ ¬ G zc) : Q3S W' zw zk zv zc x k v o ca cb V K :=
  ⟨h.wy.kp hk hn.1, h.ck.kp hk hn.2.1, h.cv.kp hk hn.2.2.1, h.cc.kp hk hn.2.2.2⟩
section
variable {b most : Nat} {M1 : Cells} {F : Nat → Prop}
end

end Go.Proofs.YtghbbpbhbinioaaGreat

namespace Go.Proofs.YtghbbpbhbinioaaGreat
set_option maxRecDepth 100000
open Go.RowKit
section
variable {most : Nat} {M : Cells} {F : Nat → Prop}
end

end Go.Proofs.YtghbbpbhbinioaaGreat

namespace Go.Proofs.YtghbbpbhbinioaaGreat
set_option maxRecDepth 100000
open Go.RowKit
section
variable {most : Nat} {M : Cells} {F : Nat → Prop}
end

end Go.Proofs.YtghbbpbhbinioaaGreat

namespace Go.Proofs.YtghbbpbhbinioaaGreat
set_option maxRecDepth 100000
open Go.RowKit
section
variable {b most : Nat} {M : Cells} {F : Nat → Prop}
end

section
variable {b most : Nat} {M : Cells} {F : Nat → Prop}
end

section
variable {b most : Nat} {M : Cells} {F : Nat → Prop} {H : List Nat} {P : Nat → Nat}
end


end Go.Proofs.YtghbbpbhbinioaaGreat

namespace Go.Proofs.YtghbbpbhbinioaaGreat
open Go.RowKit

end Go.Proofs.YtghbbpbhbinioaaGreat

namespace Go.Proofs.YtghbbpbhbinioaaGreat
set_option maxRecDepth 100000
open Go.RowKit
structure Q4S (W : World) (zw zc g m n cp : Nat) (x : Wv) (o ca cb : Int) (V : Value) (kid : Nat) : Prop where
  wy : WC W zw x
  cc : C5 W zc 94 (.int .u32 o) (.int .u32 ca) (.int .u32 cb) V (.slice (some ⟨g, 0, none⟩) n cp)
  kid : W.cell? ⟨g, m, none⟩ = some (.int .i64 (kid : Int))
structure Q5S (W : World) (zw zc : Nat) (x : Wv) (cb : Int) : Prop where
  wy : WC W zw x
  cc : ∃ o a V K, C5 W zc 94 o a (.int .u32 cb) V K
theorem Q5S.kp {W W' : World} {zw zc : Nat} {x : Wv} {cb : Int} {G : Nat → Prop} (h : Q5S W zw zc x cb) (hk : Kp G W W') (hn : ¬ G zw ∧ ¬ G zc) : Q5S W' zw zc x cb := by
  obtain ⟨o, a, V, K, hc⟩ := h.cc
  exact ⟨h.wy.kp hk hn.1, o, a, V, K, hc.kp hk hn.2⟩
theorem Q5S.set {W : World} {zw zc : Nat} {x : Wv} {cb : Int} (h : Q5S W zw zc x cb) (hne : zw ≠ zc) (u : Value) : Q5S (W.setCell ⟨zc, 1, none⟩ u) zw zc x cb := by
  obtain ⟨o, a, V, K, hc⟩ := h.cc
  exact ⟨(Below.heap_setCell W ⟨zc, 1, none⟩ u zw hne).trans h.wy, o, u, V, K, hc.set1 u⟩
section
variable {most : Nat} {M1 : Cells} {F : Nat → Prop}
end

end Go.Proofs.YtghbbpbhbinioaaGreat

namespace Go.Proofs.YtghbbpbhbinioaaGreat
set_option maxRecDepth 100000
open Go.RowKit
section
variable {b most : Nat} {M : Cells} {F : Nat → Prop}
end

end Go.Proofs.YtghbbpbhbinioaaGreat

namespace Go.Proofs.YtghbbpbhbinioaaGreat
open Go.RowKit

def mixA (n : Nat) : Nat := (n ^^^ n / 1073741824) * 13787848793156543929 % 18446744073709551616
def mixB (n : Nat) : Nat := (n ^^^ n / 134217728) * 10723151780598845931 % 18446744073709551616
def mixC (n : Nat) : Nat := n ^^^ n / 2147483648
def mixN (n : Nat) : Nat := mixC (mixB (mixA n))

theorem mixA_lt (n : Nat) : mixA n < 18446744073709551616 := Nat.mod_lt _ (by decide)
theorem mixB_lt (n : Nat) : mixB n < 18446744073709551616 := Nat.mod_lt _ (by decide)
theorem mixC_lt {n : Nat} (h : n < 18446744073709551616) : mixC n < 18446744073709551616 :=
  Nat.xor_lt_two_pow (n := 64) h (Nat.lt_of_le_of_lt (Nat.div_le_self _ _) h)
theorem mixN_lt (n : Nat) : mixN n < 18446744073709551616 := mixC_lt (mixB_lt _)

def keyN (seed : Nat) : Nat := mixN ((seed + 11400714819323198485) % 18446744073709551616)
theorem keyN_lt (seed : Nat) : keyN seed < 18446744073709551616 := mixN_lt _

theorem mixA_run {n : Nat} (hn : n < 18446744073709551616) : IntKind.u64.wrap (bits .xor .u64 (n : Int) ((n : Int) / 1073741824) * 13787848793156543929) = ((mixA n : Nat) : Int) := mixStep_u64 n 1073741824 13787848793156543929 hn
theorem mixB_run {n : Nat} (hn : n < 18446744073709551616) : IntKind.u64.wrap (bits .xor .u64 (n : Int) ((n : Int) / 134217728) * 10723151780598845931) = ((mixB n : Nat) : Int) := mixStep_u64 n 134217728 10723151780598845931 hn
theorem mixC_run {n : Nat} (hn : n < 18446744073709551616) : bits .xor .u64 (n : Int) ((n : Int) / 2147483648) = ((mixC n : Nat) : Int) := xorShift_u64 n 2147483648 hn

theorem mix (n : Nat) (hn : n < 18446744073709551616) (w : World) : Calls Tryz.prog 136 #[.int .u64 n] w fun e w' => e = .returned (.int .u64 (mixN n)) ∧ w = w' := by
  go_enter Tryz.func136, Tryz.ntmps136
  go_wp2
  go_ret
  exact ⟨ret_int (by rw [mixA_run hn, mixB_run (mixA_lt n), mixC_run (mixB_lt _)]; rfl), rfl⟩

end Go.Proofs.YtghbbpbhbinioaaGreat

namespace Go.Proofs.YtghbbpbhbinioaaGreat
set_option maxRecDepth 100000
open Go.RowKit

abbrev muLink : Go.Conc.Locks.MuLink := { lock := 196, unlock := 197, ilock := 201, iunlock := 202, lockSlow := 209, unlockSlow := 212, disable := 205, enable := 207, acquire := 208, relMerge := 210, cas32 := 206, add32 := 211, tMutex := 167, tIMutex := 165, tPMutex := 256, tPIMutex := 259, tPI32 := 261, tUP := 263, tNoCopy := 161, tU32 := 38 }
theorem muLib : Go.Conc.Locks.MuLib Tryz.prog muLink where
  f_lock := Tryz.func196
  f_unlock := Tryz.func197
  f_ilock := Tryz.func201
  f_iunlock := Tryz.func202
  f_disable := Tryz.func205
  f_enable := Tryz.func207
  f_acquire := Tryz.func208
  f_relMerge := Tryz.func210
  f_cas32 := Tryz.func206
  f_add32 := Tryz.func211
  underlying_tIMutex := Tryz.underlying165
  runUnderlying_tIMutex := Tryz.runUnderlying165
  sizeOf_tIMutex := Tryz.sizeOf165
  isAgg_tIMutex := Tryz.isAgg165
  zeroValue_tIMutex := Tryz.zeroValue165
  underlying_tMutex := Tryz.underlying167
  runUnderlying_tMutex := Tryz.runUnderlying167
  sizeOf_tMutex := Tryz.sizeOf167
  isAgg_tMutex := Tryz.isAgg167
  zeroValue_tMutex := Tryz.zeroValue167
  underlying_tPMutex := Tryz.underlying256
  runUnderlying_tPMutex := Tryz.runUnderlying256
  sizeOf_tPMutex := Tryz.sizeOf256
  isAgg_tPMutex := Tryz.isAgg256
  zeroValue_tPMutex := Tryz.zeroValue256
  underlying_tPIMutex := Tryz.underlying259
  runUnderlying_tPIMutex := Tryz.runUnderlying259
  sizeOf_tPIMutex := Tryz.sizeOf259
  isAgg_tPIMutex := Tryz.isAgg259
  zeroValue_tPIMutex := Tryz.zeroValue259
  underlying_tPI32 := Tryz.underlying261
  runUnderlying_tPI32 := Tryz.runUnderlying261
  sizeOf_tPI32 := Tryz.sizeOf261
  isAgg_tPI32 := Tryz.isAgg261
  zeroValue_tPI32 := Tryz.zeroValue261
  underlying_tUP := Tryz.underlying263
  runUnderlying_tUP := Tryz.runUnderlying263
  sizeOf_tUP := Tryz.sizeOf263
  isAgg_tUP := Tryz.isAgg263
  zeroValue_tUP := Tryz.zeroValue263
  underlying_tNoCopy := Tryz.underlying161
  runUnderlying_tNoCopy := Tryz.runUnderlying161
  sizeOf_tNoCopy := Tryz.sizeOf161
  isAgg_tNoCopy := Tryz.isAgg161
  zeroValue_tNoCopy := Tryz.zeroValue161
  underlying_t21 := Tryz.underlying21
  runUnderlying_t21 := Tryz.runUnderlying21
  sizeOf_t21 := Tryz.sizeOf21
  isAgg_t21 := Tryz.isAgg21
  zeroValue_t21 := Tryz.zeroValue21
  room_tIMutex := by kernel_rfl

theorem bool_store (a : Addr) (x : Value) (u : FrameMode) (w : World) (hc : w.cell? a = some x) (hz : w.frozen? a = false) :
    CallsD Tryz.prog 198 #[.pointer (some a), .bool true] u w fun e u' w' => u' = u ∧ (e = .returned (.tuple #[]) ∧ w' = w.drew.setCell a (.int .u32 1)) := by
  have hst := run_call_store (P := Tryz.prog) Tryz.func203 (by kernel_rfl) (by kernel_rfl) (by kernel_rfl) (by kernel_rfl) (k := .u32) (y := 1) (w := w.drew) (a := a) (u := x) (by go_simp) (by go_simp)
  go_enter_d Tryz.func198, Tryz.ntmps198
  go_wp2
  go_region_calls
  all_goals (go_end0; exact ⟨rfl, rfl⟩)

theorem seed_run (seed : Nat) : IntKind.u64.wrap ((seed : Int) + 11400714819323198485) = (((seed + 11400714819323198485) % 18446744073709551616 : Nat) : Int) := by rw [IntKind.wrap_u64]; omega
theorem keyed (b seed : Nat) (pl : Addr) (x : Value) (w : World) (hp : w.cell? pl = some (.pointer (some ⟨b, 0, none⟩))) (c0 : w.cell? ⟨b, 0, none⟩ = some (.int .u64 seed)) (c4 : w.cell? ⟨b, 4, none⟩ = some x) (f4 : w.frozen? ⟨b, 4, none⟩ = false) :
    Calls Tryz.prog 166 #[.pointer (some pl)] w fun e w' => e = .returned (.tuple #[]) ∧ w' = w.drew.setCell ⟨b, 4, none⟩ (.int .u64 (keyN seed)) := by
  go_enter Tryz.func166, Tryz.ntmps166
  go_wp2_with fail
  go_region_with (go_at_call 136; rw [seed_run]; refine (mix _ (Nat.mod_lt _ (by decide)) _).mono ?_; rintro e w' ⟨rfl, rfl⟩)
  all_goals (go_end0; exact ⟨rfl, rfl⟩)

def Row (w : World) (b seed : Nat) (d st : Int) (q key : Nat) : Prop :=
  w.heap[b]? = some (.cells #[.int .u64 seed, .int .u32 d, .int .i32 st, .int .u32 q, .int .u64 key] 171 (0, 0))
section
variable {w w' : World} {b seed q key : Nat} {d st : Int}
theorem Row.c0 (h : Row w b seed d st q key) : w.cell? ⟨b, 0, none⟩ = some (.int .u64 seed) := by simpa using cell_of_row w b 0 _ _ (0, 0) h
theorem Row.c1 (h : Row w b seed d st q key) : w.cell? ⟨b, 1, none⟩ = some (.int .u32 d) := by simpa using cell_of_row w b 1 _ _ (0, 0) h
theorem Row.c2 (h : Row w b seed d st q key) : w.cell? ⟨b, 2, none⟩ = some (.int .i32 st) := by simpa using cell_of_row w b 2 _ _ (0, 0) h
theorem Row.c4 (h : Row w b seed d st q key) : w.cell? ⟨b, 4, none⟩ = some (.int .u64 key) := by simpa using cell_of_row w b 4 _ _ (0, 0) h
theorem Row.fz (h : Row w b seed d st q key) (i : Nat) : w.frozen? ⟨b, i, none⟩ = false := frozen_of_row w b i _ _ h
theorem Row.set1 (h : Row w b seed d st q key) (x : Int) : Row (w.setCell ⟨b, 1, none⟩ (.int .u32 x)) b seed x st q key := by
  have := heap_setCell_same w b 1 _ _ (.int .u32 x) h
  simpa [Row] using this
theorem Row.set2 (h : Row w b seed d st q key) (x : Int) : Row (w.setCell ⟨b, 2, none⟩ (.int .i32 x)) b seed d x q key := by
  have := heap_setCell_same w b 2 _ _ (.int .i32 x) h
  simpa [Row] using this
theorem Row.set4 (h : Row w b seed d st q key) (x : Nat) : Row (w.setCell ⟨b, 4, none⟩ (.int .u64 x)) b seed d st q x := by
  have := heap_setCell_same w b 4 _ _ (.int .u64 x) h
  simpa [Row] using this
theorem Row.drew (h : Row w b seed d st q key) : Row w.drew b seed d st q key := h
theorem Row.lt (h : Row w b seed d st q key) : b < w.heap.size := (Array.getElem?_eq_some_iff.1 h).1
theorem Row.below (h : Row w b seed d st q key) (hb : Below w.heap.size w w') : Row w' b seed d st q key := (hb.block b h.lt).trans h
theorem Row.grown (h : Row w b seed d st q key) {row : Option Nat} (hg : w.grownBy w' row) (hb : some b ≠ row) : Row w' b seed d st q key := (hg.block b h.lt hb).trans h
end

set_option maxRecDepth 100000 in
set_option maxHeartbeats 1600000 in
theorem slow (b seed q key : Nat) (pl : Addr) (hpb : ¬ b = pl.block) (w : World) (hp : w.cell? pl = some (.pointer (some ⟨b, 0, none⟩))) (h : Row w b seed 0 0 q key) :
    Calls Tryz.prog 186 #[.pointer (some ⟨b, 1, none⟩), .func (.func 166) #[] #[.pointer (some pl)]] w fun e w' => e = .returned (.tuple #[]) ∧
      w' = ((((w.setCell ⟨b, 2, none⟩ (.int .i32 1)).drew.setCell ⟨b, 4, none⟩ (.int .u64 (keyN seed))).drew.setCell ⟨b, 1, none⟩ (.int .u32 1)).setCell ⟨b, 2, none⟩ (.int .i32 0)) := by
  have r1 := h.set2 1
  have hp1 : (w.setCell ⟨b, 2, none⟩ (.int .i32 1)).cell? pl = some (.pointer (some ⟨b, 0, none⟩)) := (World.cell?_setCell_other _ ⟨b, 2, none⟩ pl _ (fun h => hpb (by rw [← h]))).trans hp
  have r2 := (r1.drew.set4 (keyN seed))
  have hl := run_call_load (P := Tryz.prog) Tryz.func195 (by kernel_rfl) (by kernel_rfl) (by kernel_rfl) .u32 (by kernel_rfl) r1.c1
  have hnot : ∀ (x : Bool) (w : World), (Op.unary .not (.bool x)).run Tryz.prog w = .ok (.bool (!x)) w := fun _ _ => rfl
  go_enter_defers Tryz.func186, Tryz.ntmps186
  go_wp2_with (first | (go_at_call 196; refine (Go.MuLone.lock_free muLib ⟨b, 2, none⟩ _ h.c2 (h.fz 2)).mono ?_; rintro e w' ⟨rfl, rfl⟩) | (go_at_call 185; go_in) | (go_at_call 166; refine (keyed b seed pl _ _ hp1 r1.c0 r1.c4 (r1.fz 4)).mono ?_; rintro e w' ⟨rfl, rfl⟩))
  refine leaves_cons (f := 198) (args := #[.pointer (some ⟨b, 1, none⟩), .bool true]) (by simp) (by simp [go_sem]) ?_
  refine (bool_store ⟨b, 1, none⟩ _ .returning _ r2.c1 (r2.fz 1)).mono ?_
  rintro e u' w'' ⟨rfl, rfl, rfl⟩
  refine leaves_cons (f := 197) (args := #[.pointer (some ⟨b, 2, none⟩)]) (by simp [settle]) (by simp [go_sem]) ?_
  refine (Go.MuLone.unlock_deferred muLib ⟨b, 2, none⟩ _ _ (r2.drew.set1 1).c2 ((r2.drew.set1 1).fz 2)).mono ?_
  rintro e u' w'' ⟨rfl, rfl, rfl⟩
  simp [Leaves, settle, results, Tryz.results186]

end Go.Proofs.YtghbbpbhbinioaaGreat

namespace Go.Proofs.YtghbbpbhbinioaaGreat
open Go.RowKit

def bc (l : List UInt8) : List Value := l.map fun b => Value.int .u8 (b.toNat : Int)
theorem bc_length (l : List UInt8) : (bc l).length = l.length := by simp [bc]
theorem bc_append (l m : List UInt8) : bc (l ++ m) = bc l ++ bc m := by simp [bc]
theorem bc_at (l : List UInt8) (j : Nat) : (bc l)[j]? = l[j]?.map fun b => Value.int .u8 (b.toNat : Int) := by simp [bc]
theorem bc_one (l : List UInt8) : ∀ u ∈ bc l, u.oneCell' = true := by
  intro u hu
  obtain ⟨b, _, rfl⟩ := List.mem_map.1 hu
  rfl
theorem u8_info : (Tryz.prog.info? 5).map (fun i => (i.zero, i.size, i.bytes)) = some (some (.int .u8 0), 1, 1) := by kernel_rfl

def Bs (w : World) (v : Value) (l : List UInt8) : Prop :=
  (v = .slice none 0 0 ∧ l = []) ∨ ∃ (a : Addr) (c : Nat), v = .slice (some a) l.length c ∧ l.length ≤ c ∧ c ≤ maxLen ∧ ∀ j x, l[j]? = some x → w.cell? (a.add j) = some (.int .u8 (x.toNat : Int))

def Own (w : World) (B : Nat) (v : Value) (l : List UInt8) : Prop := w.ownsRow B 5 1 v l.length (bc l)

section
variable {w w' : World} {v : Value} {l m : List UInt8} {B : Nat}
theorem Bs.nil (w : World) : Bs w (.slice none 0 0) [] := .inl ⟨rfl, rfl⟩
theorem Bs.form (h : Bs w v l) : ∃ A c, v = .slice A l.length c ∧ l.length ≤ c := by
  rcases h with ⟨rfl, rfl⟩ | ⟨a, c, rfl, hc, _⟩
  · exact ⟨none, 0, rfl, Nat.le_refl _⟩
  · exact ⟨_, c, rfl, hc⟩
theorem Bs.keep (h : Bs w v l) (hk : ∀ (p : Addr) u, w.cell? p = some u → v.ownBlock = some p.block → w'.cell? p = some u) : Bs w' v l := by
  rcases h with h | ⟨a, c, rfl, hc, hm, hx⟩
  · exact .inl h
  · refine .inr ⟨a, c, rfl, hc, hm, fun j x hj => hk _ _ (hx j x hj) ?_⟩
    unfold Addr.add; split <;> rfl
theorem Bs.below (h : Bs w v l) (hb : Below w.heap.size w w') : Bs w' v l :=
  h.keep fun p _ hu _ => (hb.cell (World.block_lt_of_cell? w p hu)).trans hu
theorem Bs.grown (h : Bs w v l) {row : Option Nat} (hg : w.grownBy w' row) (hne : v.ownBlock = none ∨ v.ownBlock ≠ row) : Bs w' v l :=
  h.keep fun _ _ hu hv => hg.cell hu (fun e => by
    rcases hne with hn | hn
    · rw [hn] at hv; cases hv
    · exact hn (hv.trans e))
theorem Bs.alloc (h : Bs w v l) (o : Obj) : Bs (w.alloc o) v l := h.below ((Below.refl _ _).alloc (Nat.le_refl _) o)
theorem Bs.drew (h : Bs w v l) : Bs w.drew v l := h
theorem Bs.drewN (h : Bs w v l) (n : Nat) : Bs (w.drewN n) v l := h
theorem Bs.at (h : Bs w v l) {j : Nat} (hj : j < l.length) : ∃ b o c, v = .slice (some ⟨b, o, none⟩) l.length c ∧ w.cell? ⟨b, o + j, none⟩ = some (.int .u8 (l[j].toNat : Int)) := by
  rcases h with ⟨_, rfl⟩ | ⟨⟨b, o, sp⟩, c, rfl, _, _, hx⟩
  · simp at hj
  · have h0 := hx 0 l[0] (List.getElem?_eq_getElem (by omega))
    obtain rfl : sp = none := by simpa [Addr.add] using World.cell?_spot h0
    refine ⟨b, o, c, rfl, ?_⟩
    have := hx j l[j] (List.getElem?_eq_getElem hj)
    rwa [show (⟨b, o, none⟩ : Addr).add j = ⟨b, o + j, none⟩ by unfold Addr.add; split <;> simp_all] at this

theorem Bs.src {A : Option Addr} {n c : Nat} (h : Bs w (.slice A n c) l) (hp : 0 < l.length) : ∃ a, A = some a ∧ ∀ j u, (bc l)[j]? = some u → w.cell? (a.add j) = some u := by
  rcases h with ⟨_, rfl⟩ | ⟨a, c', e, _, _, hx⟩
  · simp at hp
  · injection e with e1
    refine ⟨a, e1, fun j u hu => ?_⟩
    rw [bc_at] at hu
    obtain ⟨x, hx', rfl⟩ := Option.map_eq_some_iff.1 hu
    exact hx j x hx'

theorem Own.nil (w : World) (B : Nat) : Own w B (.slice none 0 0) [] := World.ownsRow_nil w B _ 1
theorem Own.bs (h : Own w B v l) : Bs w v l := by
  rcases h.2 with ⟨rfl, hn⟩ | ⟨g, cap, cur, rfl, _, hg, hc, hm, _⟩
  · exact .inl ⟨rfl, List.eq_nil_of_length_eq_zero hn⟩
  · exact .inr ⟨_, cap, rfl, hc, hm, fun j x hj => World.ownsRow.cells h rfl j _ (by rw [bc_at, hj]; rfl)⟩
theorem Own.grown (h : Own w B v l) {row : Option Nat} (hg : w.grownBy w' row) (hne : v.ownBlock = none ∨ v.ownBlock ≠ row) : Own w' B v l := World.ownsRow.kept h hg hne
theorem grownBy_of_below (hb : Below w.heap.size w w') (row : Option Nat) : w.grownBy w' row := ⟨hb.os, hb.tape, hb.output, hb.size, fun k hk _ => hb.block k hk⟩
theorem Own.below (h : Own w B v l) (hb : Below w.heap.size w w') : Own w' B v l := h.grown (grownBy_of_below hb none) (by cases v.ownBlock <;> simp)
theorem Own.alloc (h : Own w B v l) (o : Obj) : Own (w.alloc o) B v l := h.below ((Below.refl _ _).alloc (Nat.le_refl _) o)
theorem Own.drew (h : Own w B v l) : Own w.drew B v l := h
theorem Own.drewN (h : Own w B v l) (n : Nat) : Own (w.drewN n) B v l := h
theorem Own.less {B' : Nat} (h : Own w B v l) (hB : B' ≤ B) : Own w B' v l := by
  refine ⟨h.1, ?_⟩
  rcases h.2 with hn | ⟨g, cap, cur, hv, hb, rest⟩
  · exact .inl hn
  · exact .inr ⟨g, cap, cur, hv, Nat.le_trans hB hb, rest⟩
theorem Own.blk (h : Own w B v l) : ∀ k, v.ownBlock = some k → B ≤ k ∧ k < w.heap.size := World.ownsRow.lt h
theorem Own.lit (w : World) (l : List UInt8) (hB : B ≤ w.heap.size) (hl : l.length ≤ maxLen) : Own (w.alloc (.cells (bc l).toArray 5)) B (.slice (some ⟨w.heap.size, 0, none⟩) l.length l.length) l := by
  have := World.ownsRow_lit (base := B) (e := 5) (size := 1) w (bc l).toArray l.length hB hl (by simp [bc_length])
  exact this
theorem Own.single (w : World) (z : Int) (x : UInt8) (h : z = (x.toNat : Int)) (hB : B ≤ w.heap.size) : Own (w.alloc (.cells #[.int .u8 z] 5)) B (.slice (some ⟨w.heap.size, 0, none⟩) 1 1) [x] := by
  have := Own.lit (B := B) w [x] hB (by unfold maxLen; simp)
  simpa [bc, h] using this
theorem Own.boxed (w : World) (o : Obj) (z : Int) (x : UInt8) (h : z = (x.toNat : Int)) : Own ((w.alloc o).alloc (.cells #[.int .u8 z] 5)) w.heap.size (.slice (some ⟨w.heap.size + 1, 0, none⟩) 1 1) [x] := by
  have := Own.single (B := w.heap.size) (w.alloc o) z x h (by simp)
  simpa using this
theorem Bs.single (w : World) (z : Int) (x : UInt8) (t : TypeId) (h : z = (x.toNat : Int)) (b : Nat) (hb : b = w.heap.size) : Bs (w.alloc (.cells #[.int .u8 z] t)) (.slice (some ⟨b, 0, none⟩) 1 1) [x] := by
  subst hb
  refine .inr ⟨_, 1, rfl, Nat.le_refl _, by unfold maxLen; omega, fun j y hj => ?_⟩
  match j, hj with
  | 0, hj => simp at hj; subst hj; simp [Addr.add, go_sem, h]
end

theorem below_trans {a b c : World} (h : Below a.heap.size a b) (k : Below b.heap.size b c) : Below a.heap.size a c := h.trans (k.mono h.size)
theorem below_ownB {a w w' : World} {v : Value} {l : List UInt8} (hb : Below a.heap.size a w) (hown : Own w a.heap.size v l) (hg : w.grownBy w' v.ownBlock) : Below a.heap.size a w' :=
  hb.grown hg hb.size fun k e => (hown.blk k e).1

section
variable {P : Program} {w : World}

theorem run_append_bs (B : Nat) (t ty : TypeId) (i : TypeInfo) (ht : P.underlying t = some (.slice 5)) (hi : P.info? 5 = some i) (hz : i.zero = some (.int .u8 0)) (hsize : i.size = 1) (hby : i.bytes = 1)
    (v : Value) (l : List UInt8) (hown : Own w B v l) (y : Value) (m : List UInt8) (hy : Bs w y m) (h47 : l.length + m.length ≤ 140737488355328) (hB : B ≤ w.heap.size) :
    ∃ v' w', (Builtin.append_ #[t, t] ty #[v, y]).run P w = .ok v' w' ∧ Own w' B v' (l ++ m) ∧ w.grownBy w' v.ownBlock := by
  rcases hy with ⟨rfl, rfl⟩ | ⟨a, c, rfl, _, _, hc⟩
  · refine ⟨v, w, run_append_owned_none w B t ty 5 i 1 ht hi v _ _ hown, by simpa using hown, ⟨rfl, rfl, rfl, Nat.le_refl _, fun _ _ _ => rfl⟩⟩
  · obtain ⟨v', w', hr, ho, hg, _⟩ := run_append_own (P := P) w B t ty 5 i (.int .u8 0) 1 1 ht hi hz hsize hby rfl (by decide) v l.length (bc l) hown a m.length c (bc m) (by simp [bc_length])
      (fun j u hu => by
        rw [bc_at] at hu
        obtain ⟨x, hx, rfl⟩ := Option.map_eq_some_iff.1 hu
        exact hc j x hx) (bc_one m) (by unfold maxLen; omega) (by omega) hB
    exact ⟨v', w', hr, by unfold Own; rw [bc_append, List.length_append]; exact ho, hg⟩

theorem wpList_append_bs {ops : Array Oper} {rest : List Oper} {o : Oper} {a : Act} {Q : Exit → Act → World → Prop} (hgd : o.guard = none) (s x : Operand) (t : TypeId)
    (ho : o.op = .call { callee := .builtin .append, args := #[s, x], argTypes := #[t, t] })
    (B : Nat) (i : TypeInfo) (ht : P.underlying t = some (.slice 5)) (hi : P.info? 5 = some i) (hz : i.zero = some (.int .u8 0)) (hsize : i.size = 1) (hby : i.bytes = 1)
    (v : Value) (l : List UInt8) (hs : a.eval s = v) (hown : Own w B v l) (y : Value) (m : List UInt8) (hx : a.eval x = y) (hy : Bs w y m) (h47 : l.length + m.length ≤ 140737488355328) (hB : B ≤ w.heap.size)
    (h : ∀ v' w', Own w' B v' (l ++ m) → w.grownBy w' v.ownBlock → wpList P ops Q rest (a.put o.dst v') w') : wpList P ops Q (o :: rest) a w := by
  obtain ⟨v', w', hrun, h2, h3⟩ := run_append_bs (P := P) (w := w) B t o.type i ht hi hz hsize hby v l hown y m hy h47 hB
  refine wpList_plain hgd fun K hK => ?_
  unfold Oper.wp execOp
  simp only [ho, resolve, invoke, builtin, Sem.run_bind, Sem.run_pure, Result.andThen_ok, List.map_toArray, List.map_cons, List.map_nil, hs, hx, hrun]
  exact hK _ _ (h v' w' h2 h3)

theorem wpList_append_str {ops : Array Oper} {rest : List Oper} {o : Oper} {a : Act} {Q : Exit → Act → World → Prop} (hgd : o.guard = none) (sl x : Operand) (t u : TypeId)
    (ho : o.op = .call { callee := .builtin .append, args := #[sl, x], argTypes := #[t, u] })
    (B : Nat) (i : TypeInfo) (ht : P.underlying t = some (.slice 5)) (hu : P.underlying u = some .string) (hi : P.info? 5 = some i) (hz : i.zero = some (.int .u8 0)) (hsize : i.size = 1) (hby : i.bytes = 1)
    (v : Value) (l : List UInt8) (hs : a.eval sl = v) (hown : Own w B v l) (s : ByteArray) (hx : a.eval x = .string s) (h47 : l.length + s.size ≤ 140737488355328) (hB : B ≤ w.heap.size)
    (h : ∀ v' w', Own w' B v' (l ++ s.data.toList) → w.grownBy w' v.ownBlock → wpList P ops Q rest (a.put o.dst v') w') : wpList P ops Q (o :: rest) a w :=
  Lib.wpList_append_own_string w hgd sl x t u ho B 5 i ht hu hi hz hsize hby v l.length (bc l) hs hown s hx (by unfold maxLen; omega) h47 hB fun v' w' h2 h3 _ =>
    h v' w' (by unfold Own; rw [bc_append, List.length_append, Array.length_toList]; exact h2) h3

end

end Go.Proofs.YtghbbpbhbinioaaGreat

namespace Go.Proofs.YtghbbpbhbinioaaGreat
open Go.RowKit

def szd (n : Int) : Nat := (min (max n 0) 8).toNat
theorem szd_le (n : Int) : szd n ≤ 8 := by unfold szd; omega
def MadeB (w : World) (l : List UInt8) (e : Ending) (w' : World) : Prop := ∃ v', e = .returned v' ∧ Own w' w.heap.size v' l ∧ Below w.heap.size w w'

theorem sized (n : Int) (w : World) : Calls Tryz.prog 187 #[.int .i64 n] w fun e w' => e = .returned (.int .i64 (szd n)) ∧ w = w' := by
  by_cases h0 : n < 0
  · go_enter Tryz.func187, Tryz.ntmps187
    go_wp2
    go_ret
    exact ⟨ret_int (by unfold szd; omega), rfl⟩
  · by_cases h8 : n ≤ 8
    · go_enter Tryz.func187, Tryz.ntmps187
      go_wp2
      go_ret
      exact ⟨ret_int (by unfold szd; omega), rfl⟩
    · go_enter Tryz.func187, Tryz.ntmps187
      go_wp2
      go_ret
      exact ⟨ret_int (by unfold szd; omega), rfl⟩

theorem leBytes_snoc : ∀ (j n : Nat), Lib.leBytes (j + 1) n = Lib.leBytes j n ++ [(n / 256 ^ j % 256).toUInt8]
  | 0, n => by simp [Lib.leBytes]
  | j + 1, n => by
    rw [Lib.leBytes, leBytes_snoc j (n / 256), Lib.leBytes, List.cons_append, Nat.div_div_eq_div_mul, Nat.pow_succ, Nat.mul_comm 256]
theorem div_pow_succ (n j : Nat) : n / 256 ^ j / 256 = n / 256 ^ (j + 1) := by rw [Nat.div_div_eq_div_mul, Nat.pow_succ]

theorem own_copied {w : World} {B g cap : Nat} {l : List UInt8} {cur : List Value} (hB : B ≤ g) (hc : cur.length = cap) (hl : l.length ≤ cap) (hm : cap ≤ maxLen) (h : w.heap[g]? = some (.cells (splice cur 0 (bc l)).toArray 5 (0, 0))) :
    Own w B (.slice (some ⟨g, 0, none⟩) l.length cap) l := by
  refine ⟨by simp [bc_length], .inr ⟨g, cap, _, rfl, hB, h, hl, hm, ?_, ?_⟩⟩
  · rw [List.size_toArray, length_splice _ _ _ (by rw [bc_length]; omega)]; omega
  · simp [splice, ← bc_length l]

set_option maxHeartbeats 1000000 in
theorem put (v : Value) (l : List UInt8) (n : Nat) (size : Int) (w : World) (hv : Bs w v l) (hn : n < 18446744073709551616) (h47 : l.length + 8 ≤ 140737488355328) :
    Calls Tryz.prog 167 #[v, .int .u64 n, .int .i64 size] w (MadeB w (l ++ Lib.leBytes (szd size) n)) := by
  obtain ⟨i0, hi, hz0, hz1, hz2⟩ := info_parts u8_info
  obtain ⟨A, c, rfl, hc⟩ := hv.form
  have hk8 := szd_le size
  obtain ⟨k, hk⟩ : ∃ k, k = szd size := ⟨_, rfl⟩
  rw [← hk] at hk8 ⊢
  have HK := Lib.hid hk
  clear hk
  have hmk : ∀ W : World, (Instr.makeSlice 209 (.int .i64 (l.length : Int)) (.int .i64 ((l.length : Int) + (k : Int)))).run Tryz.prog W = .ok (.slice (some ⟨W.heap.size, 0, none⟩) l.length (l.length + k)) (W.alloc (.cells (madeCells #[.int .u8 0] (l.length + k)) 5)) := fun W => by
    have := run_make (P := Tryz.prog) W 209 5 i0 (.int .u8 0) Tryz.underlying209 hi hz0 .i64 .i64 (l.length : Int) ((l.length : Int) + (k : Int)) (by omega) (by omega) (by rw [hz2]; omega) (by omega)
    rw [this, hz1]
    have e : ((l.length : Int) + (k : Int)).toNat = l.length + k := by omega
    simp [e, Value.cells]
  have hlen : (madeCells #[.int .u8 0] (l.length + k)).toList.length = l.length + k := by simp [size_madeCells]
  have HL := Lib.hid hlen
  clear hlen
  have hsz : (Tryz.prog.info? 5).map (·.size) = some 1 := by kernel_rfl
  have HS := Lib.hid hsz
  clear hsz
  go_enter Tryz.func167, Tryz.ntmps167
  go_wp2_with (first | (go_at_call 187; rw [HK.out]; refine (sized _ _).mono ?_; rintro e w' ⟨rfl, rfl⟩; rw [← HK.out]) | (with_reducible refine wpList_copy_splice rfl (.tmp 17) (.tmp 18) 209 209 rfl 5 Tryz.underlying209 HS.out (some ⟨w.heap.size, 0, none⟩) A l.length (l.length + k) l.length c rfl rfl w.heap.size 0 (madeCells #[.int .u8 0] (l.length + k)).toList 5 ?c1 (bc l) ?c2 ?c3 ?c4 (bc_one l) w.heap.size w ((Below.refl _ _).alloc (Nat.le_refl _) _) (Nat.le_refl _) ?_))
  case c1 => rw [Array.toArray_toList]; exact heap_alloc_new w _
  case c2 => rw [bc_length]; exact (Nat.min_self _).symm
  case c3 =>
    intro hp
    rw [bc_length] at hp
    exact (hv.alloc _).src hp
  case c4 => rw [HL.out, bc_length]; omega
  intro w1 HW hb1
  have hown0 := own_copied (Nat.le_refl w.heap.size) HL.out (Nat.le_add_right l.length k) (by unfold maxLen; omega) HW.out
  clear HW HL hmk
  go_wp2_with fail
  go_loopw [1, 7, 21] (fun nv ov i wr => ∃ j : Nat, j ≤ k ∧ i = .int .i64 j ∧ nv = .int .u64 (n / 256 ^ j : Nat) ∧ Own wr w.heap.size ov (l ++ Lib.leBytes j n) ∧ Below w.heap.size w wr) (fun _ _ i _ => k - (intOf i).toNat)
  case atStart => exact ⟨0, Nat.zero_le _, rfl, by simp, by simpa [Lib.leBytes] using hown0, hb1⟩
  case round =>
    obtain ⟨j, hj, rfl, rfl, hown, hb⟩ := hrel
    obtain ⟨q, hq⟩ : ∃ q, q = n / 256 ^ j := ⟨_, rfl⟩
    have hqn : q < 18446744073709551616 := by rw [hq]; exact Nat.lt_of_le_of_lt (Nat.div_le_self _ _) hn
    rw [← hq]
    have HQ := Lib.hid hq
    clear hq
    by_cases h1 : j < k
    · go_wp2_with ((at_builtin; refine wpList_append_bs rfl (.tmp 23) (.tmp 26) 209 rfl w.heap.size i0 Tryz.underlying209 hi hz0 hz1 hz2 _ _ rfl (hown.alloc _) _ [(q % 256).toUInt8] rfl (Bs.single _ _ _ _ ?c5 _ rfl) ?c6 ?c7 ?_))
      case c5 => rw [Lib.toUInt8_mod]; omega
      case c6 => simp [Lib.leBytes_length]; omega
      case c7 => have := hb.size; simp; omega
      intro v' w2 hown2 hg2
      go_wp2_with fail
      go_roundw
      case rel => exact ⟨j + 1, by omega, by go_num, by rw [← div_pow_succ, ← HQ.out]; go_num, by rw [leBytes_snoc, ← HQ.out]; exact hown2, below_ownB (hb.alloc hb.size _) (hown.alloc _) hg2⟩
      case measure => simp [intOf]; omega
    · obtain rfl : j = k := by omega
      go_wp2_with fail
      go_ret
      exact ⟨_, rfl, hown, hb⟩


def txtB (s : ByteArray) : List UInt8 := Lib.leBytes 2 s.size ++ s.data.toList
theorem txtB_length (s : ByteArray) : (txtB s).length = 2 + s.size := by simp [txtB, Lib.leBytes_length]

theorem ptext (v : Value) (l : List UInt8) (s : ByteArray) (w : World) (hv : Bs w v l) (h47 : l.length + 8 + s.size ≤ 140737488355328) :
    Calls Tryz.prog 168 #[v, .string s] w (MadeB w (l ++ txtB s)) := by
  obtain ⟨i0, hi, hz0, hz1, hz2⟩ := info_parts u8_info
  go_enter Tryz.func168, Tryz.ntmps168
  go_wp2_with fail
  refine (put v l s.size 2 w hv (by omega) (by omega)).mono ?_
  rintro e w1 ⟨v1, rfl, hown1, hb1⟩
  go_wp2_with ((at_builtin; refine wpList_append_str rfl (.tmp 9) (.tmp 10) 209 9 rfl w.heap.size i0 Tryz.underlying209 Tryz.underlying9 hi hz0 hz1 hz2 _ _ rfl hown1 s rfl ?c6 hb1.size ?_))
  case c6 => simp [Lib.leBytes_length, szd]; omega
  intro v2 w2 hown2 hg2
  go_wp2_with fail
  go_ret
  exact ⟨_, rfl, hown2, below_ownB hb1 hown1 hg2⟩

def u64of (n : Int) : Nat := (n % 18446744073709551616).toNat
theorem u64of_lt (n : Int) : u64of n < 18446744073709551616 := by unfold u64of; omega
theorem wrap_u64of (n : Int) : IntKind.u64.wrap n = (u64of n : Int) := by rw [IntKind.wrap_u64]; unfold u64of; omega
def valB (k n : Int) (s : ByteArray) : List UInt8 :=
  Lib.leBytes 1 k.toNat ++ (if k = 1 then Lib.leBytes 1 (u64of n) else if k = 2 then Lib.leBytes 8 (u64of n) else if k = 3 then txtB s else [])

theorem box3 {w w1 : World} {a0 a1 a2 : Value} {t : TypeId} (h : Below (w.alloc (.cells #[a0, a1, a2] t)).heap.size (w.alloc (.cells #[a0, a1, a2] t)) w1) :
    w1.cell? ⟨w.heap.size, 0, none⟩ = some a0 ∧ w1.cell? ⟨w.heap.size, 1, none⟩ = some a1 ∧ w1.cell? ⟨w.heap.size, 2, none⟩ = some a2 := by
  refine ⟨?_, ?_, ?_⟩ <;> (rw [h.cell (p := ⟨w.heap.size, _, none⟩) (by simp)]; simp [go_sem])
theorem below_box {w w1 : World} {o : Obj} (h : Below (w.alloc o).heap.size (w.alloc o) w1) : Below w.heap.size w w1 := below_trans ((Below.refl _ _).alloc (Nat.le_refl _) o) h
theorem own_box {w w1 : World} {o : Obj} {v : Value} {l : List UInt8} (h : Own w1 (w.alloc o).heap.size v l) : Own w1 w.heap.size v l := h.less (by simp)

set_option maxHeartbeats 1000000 in
theorem pvalue1 (v : Value) (l : List UInt8) (n : Int) (s : ByteArray) (w : World) (hv : Bs w v l) (h47 : l.length + 17 ≤ 140737488355328) :
    Calls Tryz.prog 135 #[v, vv 1 n s] w (MadeB w (l ++ valB 1 n s)) := by
  go_enter Tryz.func135, Tryz.ntmps135
  go_wp2_with fail
  refine (put v l 1 1 _ (hv.alloc _) (by omega) (by omega)).mono ?_
  rintro e w1 ⟨v1, rfl, hown1, hb1⟩
  obtain ⟨b0, b1, b2⟩ := box3 hb1
  go_wp2_with fail
  rw [wrap_u64of]
  with_reducible refine (put v1 _ (u64of n) 1 _ hown1.bs (u64of_lt n) (by simp [Lib.leBytes_length, szd]; omega)).mono ?_
  rintro e w2 ⟨v2, rfl, hown2, hb2⟩
  go_wp2_with fail
  go_ret
  exact ⟨_, rfl, by rw [List.append_assoc] at hown2; exact hown2.less (Nat.le_trans (below_box hb1).size (Nat.le_refl _)), below_trans (below_box hb1) hb2⟩

set_option maxHeartbeats 1000000 in
theorem pvalue2 (v : Value) (l : List UInt8) (n : Int) (s : ByteArray) (w : World) (hv : Bs w v l) (h47 : l.length + 17 ≤ 140737488355328) :
    Calls Tryz.prog 135 #[v, vv 2 n s] w (MadeB w (l ++ valB 2 n s)) := by
  go_enter Tryz.func135, Tryz.ntmps135
  go_wp2_with fail
  refine (put v l 2 1 _ (hv.alloc _) (by omega) (by omega)).mono ?_
  rintro e w1 ⟨v1, rfl, hown1, hb1⟩
  obtain ⟨b0, b1, b2⟩ := box3 hb1
  go_wp2_with fail
  rw [wrap_u64of]
  with_reducible refine (put v1 _ (u64of n) 8 _ hown1.bs (u64of_lt n) (by simp [Lib.leBytes_length, szd]; omega)).mono ?_
  rintro e w2 ⟨v2, rfl, hown2, hb2⟩
  go_wp2_with fail
  go_ret
  exact ⟨_, rfl, by rw [List.append_assoc] at hown2; exact hown2.less (Nat.le_trans (below_box hb1).size (Nat.le_refl _)), below_trans (below_box hb1) hb2⟩
set_option maxHeartbeats 1000000 in
theorem pvalue3 (v : Value) (l : List UInt8) (n : Int) (s : ByteArray) (w : World) (hv : Bs w v l) (h47 : l.length + 17 + s.size ≤ 140737488355328) :
    Calls Tryz.prog 135 #[v, vv 3 n s] w (MadeB w (l ++ valB 3 n s)) := by
  go_enter Tryz.func135, Tryz.ntmps135
  go_wp2_with fail
  refine (put v l 3 1 _ (hv.alloc _) (by omega) (by omega)).mono ?_
  rintro e w1 ⟨v1, rfl, hown1, hb1⟩
  obtain ⟨b0, b1, b2⟩ := box3 hb1
  go_wp2_with fail
  with_reducible refine (ptext v1 _ s _ hown1.bs (by simp [Lib.leBytes_length, szd]; omega)).mono ?_
  rintro e w2 ⟨v2, rfl, hown2, hb2⟩
  go_wp2_with fail
  go_ret
  exact ⟨_, rfl, by rw [List.append_assoc] at hown2; exact hown2.less (Nat.le_trans (below_box hb1).size (Nat.le_refl _)), below_trans (below_box hb1) hb2⟩
set_option maxHeartbeats 1000000 in
theorem pvalue0 (v : Value) (l : List UInt8) (k : Nat) (n : Int) (s : ByteArray) (w : World) (hv : Bs w v l) (hk : k < 256) (h1 : ¬ (k : Int) = 1) (h2 : ¬ (k : Int) = 2) (h3 : ¬ (k : Int) = 3) (h47 : l.length + 17 ≤ 140737488355328) :
    Calls Tryz.prog 135 #[v, vv k n s] w (MadeB w (l ++ valB k n s)) := by
  have hvB : valB k n s = Lib.leBytes 1 k := by simp [valB, h1, h2, h3]
  rw [hvB]
  clear hvB
  go_enter Tryz.func135, Tryz.ntmps135
  go_wp2_with fail
  refine (put v l k 1 _ (hv.alloc _) (by omega) (by omega)).mono ?_
  rintro e w1 ⟨v1, rfl, hown1, hb1⟩
  obtain ⟨b0, b1, b2⟩ := box3 hb1
  go_wp2_with fail
  go_ret
  exact ⟨_, rfl, own_box hown1, below_box hb1⟩
theorem pvalue (v : Value) (l : List UInt8) (k n : Int) (s : ByteArray) (w : World) (hv : Bs w v l) (hk : 0 ≤ k) (hk' : k < 256) (h47 : l.length + 17 + s.size ≤ 140737488355328) :
    Calls Tryz.prog 135 #[v, vv k n s] w (MadeB w (l ++ valB k n s)) := by
  by_cases h1 : k = 1
  · subst h1; exact pvalue1 v l n s w hv (by omega)
  · by_cases h2 : k = 2
    · subst h2; exact pvalue2 v l n s w hv (by omega)
    · by_cases h3 : k = 3
      · subst h3; exact pvalue3 v l n s w hv h47
      · obtain ⟨k, rfl⟩ := Int.eq_ofNat_of_zero_le hk
        exact pvalue0 v l k n s w hv (by omega) h1 h2 h3 (by omega)

end Go.Proofs.YtghbbpbhbinioaaGreat

namespace Go.Proofs.YtghbbpbhbinioaaGreat
set_option maxRecDepth 100000
open Go.RowKit

end Go.Proofs.YtghbbpbhbinioaaGreat

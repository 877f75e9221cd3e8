/- Several texts in one. -/
import Derived.Test.YtkkfhbcnfknmaaaGreatMg07
import Derived.Conc.MuLone
import Derived.Defers
import Derived.RegionTactic
import Derived.RegionCalls
import Derived.Deep.RegionWith
import Derived.Laws.NewBlocks
import Derived.Laws.Pointers
import Derived.DataElems
import Derived.Maps.AppendAt
import Derived.Test.YtkkfhbcnfknmaaaGreatProg
import Derived.Test.YtkkfhbcnfknmaaaGreatMg01
import Derived.Laws.OwnMore
import Derived.Lib.AppendStr
import Derived.Lib.ConvBytes
import Derived.Laws.BytesArg
import Derived.Lib.Endian
import Derived.OwnWalk
import Derived.Laws.CopyOwn
import Derived.Lib.Hide
import Derived.Outline
namespace Go.Proofs.YtkkfhbcnfknmaaaGreat
set_option maxRecDepth 100000
open Go.RowKit

abbrev muLink : Go.Conc.Locks.MuLink := { lock := 211, unlock := 212, ilock := 216, iunlock := 217, lockSlow := 224, unlockSlow := 227, disable := 220, enable := 222, acquire := 223, relMerge := 225, cas32 := 221, add32 := 226, tMutex := 188, tIMutex := 186, tPMutex := 274, tPIMutex := 277, tPI32 := 279, tUP := 281, tNoCopy := 182, tU32 := 38 }
theorem muLib : Go.Conc.Locks.MuLib Tryz.prog muLink where
  f_lock := Tryz.func211
  f_unlock := Tryz.func212
  f_ilock := Tryz.func216
  f_iunlock := Tryz.func217
  f_disable := Tryz.func220
  f_enable := Tryz.func222
  f_acquire := Tryz.func223
  f_relMerge := Tryz.func225
  f_cas32 := Tryz.func221
  f_add32 := Tryz.func226
  underlying_tIMutex := Tryz.underlying186
  runUnderlying_tIMutex := Tryz.runUnderlying186
  sizeOf_tIMutex := Tryz.sizeOf186
  isAgg_tIMutex := Tryz.isAgg186
  zeroValue_tIMutex := Tryz.zeroValue186
  underlying_tMutex := Tryz.underlying188
  runUnderlying_tMutex := Tryz.runUnderlying188
  sizeOf_tMutex := Tryz.sizeOf188
  isAgg_tMutex := Tryz.isAgg188
  zeroValue_tMutex := Tryz.zeroValue188
  underlying_tPMutex := Tryz.underlying274
  runUnderlying_tPMutex := Tryz.runUnderlying274
  sizeOf_tPMutex := Tryz.sizeOf274
  isAgg_tPMutex := Tryz.isAgg274
  zeroValue_tPMutex := Tryz.zeroValue274
  underlying_tPIMutex := Tryz.underlying277
  runUnderlying_tPIMutex := Tryz.runUnderlying277
  sizeOf_tPIMutex := Tryz.sizeOf277
  isAgg_tPIMutex := Tryz.isAgg277
  zeroValue_tPIMutex := Tryz.zeroValue277
  underlying_tPI32 := Tryz.underlying279
  runUnderlying_tPI32 := Tryz.runUnderlying279
  sizeOf_tPI32 := Tryz.sizeOf279
  isAgg_tPI32 := Tryz.isAgg279
  zeroValue_tPI32 := Tryz.zeroValue279
  underlying_tUP := Tryz.underlying281
  runUnderlying_tUP := Tryz.runUnderlying281
  sizeOf_tUP := Tryz.sizeOf281
  isAgg_tUP := Tryz.isAgg281
  zeroValue_tUP := Tryz.zeroValue281
  underlying_tNoCopy := Tryz.underlying182
  runUnderlying_tNoCopy := Tryz.runUnderlying182
  sizeOf_tNoCopy := Tryz.sizeOf182
  isAgg_tNoCopy := Tryz.isAgg182
  zeroValue_tNoCopy := Tryz.zeroValue182
  underlying_t21 := Tryz.underlying21
  runUnderlying_t21 := Tryz.runUnderlying21
  sizeOf_t21 := Tryz.sizeOf21
  isAgg_t21 := Tryz.isAgg21
  zeroValue_t21 := Tryz.zeroValue21
  room_tIMutex := by kernel_rfl

theorem bool_store (a : Addr) (x : Value) (u : FrameMode) (w : World) (hc : w.cell? a = some x) (hz : w.frozen? a = false) :
    CallsD Tryz.prog 213 #[.pointer (some a), .bool true] u w fun e u' w' => u' = u ∧ (e = .returned (.tuple #[]) ∧ w' = w.drew.setCell a (.int .u32 1)) := by
  have hst := run_call_store (P := Tryz.prog) Tryz.func218 (by kernel_rfl) (by kernel_rfl) (by kernel_rfl) (by kernel_rfl) (k := .u32) (y := 1) (w := w.drew) (a := a) (u := x) (by go_simp) (by go_simp)
  go_enter_d Tryz.func213, Tryz.ntmps213
  go_wp2
  go_region_calls
  all_goals (go_end0; exact ⟨rfl, rfl⟩)

theorem seed_run (seed : Nat) : IntKind.u64.wrap ((seed : Int) + 11400714819323198485) = (((seed + 11400714819323198485) % 18446744073709551616 : Nat) : Int) := by rw [IntKind.wrap_u64]; omega
theorem keyed (b seed : Nat) (pl : Addr) (x : Value) (w : World) (hp : w.cell? pl = some (.pointer (some ⟨b, 0, none⟩))) (c0 : w.cell? ⟨b, 0, none⟩ = some (.int .u64 seed)) (c4 : w.cell? ⟨b, 4, none⟩ = some x) (f4 : w.frozen? ⟨b, 4, none⟩ = false) :
    Calls Tryz.prog 184 #[.pointer (some pl)] w fun e w' => e = .returned (.tuple #[]) ∧ w' = w.drew.setCell ⟨b, 4, none⟩ (.int .u64 (keyN seed)) := by
  go_enter Tryz.func184, Tryz.ntmps184
  go_wp2_with fail
  go_region_with (go_at_call 156; rw [seed_run]; refine (mix _ (Nat.mod_lt _ (by decide)) _).mono ?_; rintro e w' ⟨rfl, rfl⟩)
  all_goals (go_end0; exact ⟨rfl, rfl⟩)

def Row (w : World) (b seed : Nat) (d st : Int) (q key : Nat) : Prop :=
  w.heap[b]? = some (.cells #[.int .u64 seed, .int .u32 d, .int .i32 st, .int .u32 q, .int .u64 key] 192 (0, 0))
section
variable {w w' : World} {b seed q key : Nat} {d st : Int}
theorem Row.c0 (h : Row w b seed d st q key) : w.cell? ⟨b, 0, none⟩ = some (.int .u64 seed) := by simpa using cell_of_row w b 0 _ _ (0, 0) h
theorem Row.c1 (h : Row w b seed d st q key) : w.cell? ⟨b, 1, none⟩ = some (.int .u32 d) := by simpa using cell_of_row w b 1 _ _ (0, 0) h
theorem Row.c2 (h : Row w b seed d st q key) : w.cell? ⟨b, 2, none⟩ = some (.int .i32 st) := by simpa using cell_of_row w b 2 _ _ (0, 0) h
theorem Row.c4 (h : Row w b seed d st q key) : w.cell? ⟨b, 4, none⟩ = some (.int .u64 key) := by simpa using cell_of_row w b 4 _ _ (0, 0) h
theorem Row.fz (h : Row w b seed d st q key) (i : Nat) : w.frozen? ⟨b, i, none⟩ = false := frozen_of_row w b i _ _ h
theorem Row.set1 (h : Row w b seed d st q key) (x : Int) : Row (w.setCell ⟨b, 1, none⟩ (.int .u32 x)) b seed x st q key := by
  have := heap_setCell_same w b 1 _ _ (.int .u32 x) h
  simpa [Row] using this
theorem Row.set2 (h : Row w b seed d st q key) (x : Int) : Row (w.setCell ⟨b, 2, none⟩ (.int .i32 x)) b seed d x q key := by
  have := heap_setCell_same w b 2 _ _ (.int .i32 x) h
  simpa [Row] using this
theorem Row.set4 (h : Row w b seed d st q key) (x : Nat) : Row (w.setCell ⟨b, 4, none⟩ (.int .u64 x)) b seed d st q x := by
  have := heap_setCell_same w b 4 _ _ (.int .u64 x) h
  simpa [Row] using this
theorem Row.drew (h : Row w b seed d st q key) : Row w.drew b seed d st q key := h
theorem Row.lt (h : Row w b seed d st q key) : b < w.heap.size := (Array.getElem?_eq_some_iff.1 h).1
theorem Row.below (h : Row w b seed d st q key) (hb : Below w.heap.size w w') : Row w' b seed d st q key := (hb.block b h.lt).trans h
theorem Row.grown (h : Row w b seed d st q key) {row : Option Nat} (hg : w.grownBy w' row) (hb : some b ≠ row) : Row w' b seed d st q key := (hg.block b h.lt hb).trans h
end

set_option maxRecDepth 100000 in
set_option maxHeartbeats 1600000 in
theorem slow (b seed q key : Nat) (pl : Addr) (hpb : ¬ b = pl.block) (w : World) (hp : w.cell? pl = some (.pointer (some ⟨b, 0, none⟩))) (h : Row w b seed 0 0 q key) :
    Calls Tryz.prog 201 #[.pointer (some ⟨b, 1, none⟩), .func (.func 184) #[] #[.pointer (some pl)]] w fun e w' => e = .returned (.tuple #[]) ∧
      w' = ((((w.setCell ⟨b, 2, none⟩ (.int .i32 1)).drew.setCell ⟨b, 4, none⟩ (.int .u64 (keyN seed))).drew.setCell ⟨b, 1, none⟩ (.int .u32 1)).setCell ⟨b, 2, none⟩ (.int .i32 0)) := by
  have r1 := h.set2 1
  have hp1 : (w.setCell ⟨b, 2, none⟩ (.int .i32 1)).cell? pl = some (.pointer (some ⟨b, 0, none⟩)) := (World.cell?_setCell_other _ ⟨b, 2, none⟩ pl _ (fun h => hpb (by rw [← h]))).trans hp
  have r2 := (r1.drew.set4 (keyN seed))
  have hl := run_call_load (P := Tryz.prog) Tryz.func210 (by kernel_rfl) (by kernel_rfl) (by kernel_rfl) .u32 (by kernel_rfl) r1.c1
  have hnot : ∀ (x : Bool) (w : World), (Op.unary .not (.bool x)).run Tryz.prog w = .ok (.bool (!x)) w := fun _ _ => rfl
  go_enter_defers Tryz.func201, Tryz.ntmps201
  go_wp2_with (first | (go_at_call 211; refine (Go.MuLone.lock_free muLib ⟨b, 2, none⟩ _ h.c2 (h.fz 2)).mono ?_; rintro e w' ⟨rfl, rfl⟩) | (go_at_call 200; go_in) | (go_at_call 184; refine (keyed b seed pl _ _ hp1 r1.c0 r1.c4 (r1.fz 4)).mono ?_; rintro e w' ⟨rfl, rfl⟩))
  refine leaves_cons (f := 213) (args := #[.pointer (some ⟨b, 1, none⟩), .bool true]) (by simp) (by simp [go_sem]) ?_
  refine (bool_store ⟨b, 1, none⟩ _ .returning _ r2.c1 (r2.fz 1)).mono ?_
  rintro e u' w'' ⟨rfl, rfl, rfl⟩
  refine leaves_cons (f := 212) (args := #[.pointer (some ⟨b, 2, none⟩)]) (by simp [settle]) (by simp [go_sem]) ?_
  refine (Go.MuLone.unlock_deferred muLib ⟨b, 2, none⟩ _ _ (r2.drew.set1 1).c2 ((r2.drew.set1 1).fz 2)).mono ?_
  rintro e u' w'' ⟨rfl, rfl, rfl⟩
  simp [Leaves, settle, results, Tryz.results201]

end Go.Proofs.YtkkfhbcnfknmaaaGreat

namespace Go.Proofs.YtkkfhbcnfknmaaaGreat
open Go.RowKit

def bc (l : List UInt8) : List Value := l.map fun b => Value.int .u8 (b.toNat : Int)
theorem bc_length (l : List UInt8) : (bc l).length = l.length := by simp [bc]
theorem bc_append (l m : List UInt8) : bc (l ++ m) = bc l ++ bc m := by simp [bc]
theorem bc_at (l : List UInt8) (j : Nat) : (bc l)[j]? = l[j]?.map fun b => Value.int .u8 (b.toNat : Int) := by simp [bc]
theorem bc_one (l : List UInt8) : ∀ u ∈ bc l, u.oneCell' = true := by
  intro u hu
  obtain ⟨b, _, rfl⟩ := List.mem_map.1 hu
  rfl
theorem u8_info : (Tryz.prog.info? 5).map (fun i => (i.zero, i.size, i.bytes)) = some (some (.int .u8 0), 1, 1) := by kernel_rfl

def Bs (w : World) (v : Value) (l : List UInt8) : Prop :=
  (v = .slice none 0 0 ∧ l = []) ∨ ∃ (a : Addr) (c : Nat), v = .slice (some a) l.length c ∧ l.length ≤ c ∧ c ≤ maxLen ∧ ∀ j x, l[j]? = some x → w.cell? (a.add j) = some (.int .u8 (x.toNat : Int))

def Own (w : World) (B : Nat) (v : Value) (l : List UInt8) : Prop := w.ownsRow B 5 1 v l.length (bc l)

section
variable {w w' : World} {v : Value} {l m : List UInt8} {B : Nat}
theorem Bs.nil (w : World) : Bs w (.slice none 0 0) [] := .inl ⟨rfl, rfl⟩
theorem Bs.form (h : Bs w v l) : ∃ A c, v = .slice A l.length c ∧ l.length ≤ c := by
  rcases h with ⟨rfl, rfl⟩ | ⟨a, c, rfl, hc, _⟩
  · exact ⟨none, 0, rfl, Nat.le_refl _⟩
  · exact ⟨_, c, rfl, hc⟩
theorem Bs.keep (h : Bs w v l) (hk : ∀ (p : Addr) u, w.cell? p = some u → v.ownBlock = some p.block → w'.cell? p = some u) : Bs w' v l := by
  rcases h with h | ⟨a, c, rfl, hc, hm, hx⟩
  · exact .inl h
  · refine .inr ⟨a, c, rfl, hc, hm, fun j x hj => hk _ _ (hx j x hj) ?_⟩
    unfold Addr.add; split <;> rfl
theorem Bs.below (h : Bs w v l) (hb : Below w.heap.size w w') : Bs w' v l :=
  h.keep fun p _ hu _ => (hb.cell (World.block_lt_of_cell? w p hu)).trans hu
theorem Bs.grown (h : Bs w v l) {row : Option Nat} (hg : w.grownBy w' row) (hne : v.ownBlock = none ∨ v.ownBlock ≠ row) : Bs w' v l :=
  h.keep fun _ _ hu hv => hg.cell hu (fun e => by
    rcases hne with hn | hn
    · rw [hn] at hv; cases hv
    · exact hn (hv.trans e))
theorem Bs.alloc (h : Bs w v l) (o : Obj) : Bs (w.alloc o) v l := h.below ((Below.refl _ _).alloc (Nat.le_refl _) o)
theorem Bs.drew (h : Bs w v l) : Bs w.drew v l := h
theorem Bs.drewN (h : Bs w v l) (n : Nat) : Bs (w.drewN n) v l := h
theorem Bs.at (h : Bs w v l) {j : Nat} (hj : j < l.length) : ∃ b o c, v = .slice (some ⟨b, o, none⟩) l.length c ∧ w.cell? ⟨b, o + j, none⟩ = some (.int .u8 (l[j].toNat : Int)) := by
  rcases h with ⟨_, rfl⟩ | ⟨⟨b, o, sp⟩, c, rfl, _, _, hx⟩
  · simp at hj
  · have h0 := hx 0 l[0] (List.getElem?_eq_getElem (by omega))
    obtain rfl : sp = none := by simpa [Addr.add] using World.cell?_spot h0
    refine ⟨b, o, c, rfl, ?_⟩
    have := hx j l[j] (List.getElem?_eq_getElem hj)
    rwa [show (⟨b, o, none⟩ : Addr).add j = ⟨b, o + j, none⟩ by unfold Addr.add; split <;> simp_all] at this

theorem Bs.src {A : Option Addr} {n c : Nat} (h : Bs w (.slice A n c) l) (hp : 0 < l.length) : ∃ a, A = some a ∧ ∀ j u, (bc l)[j]? = some u → w.cell? (a.add j) = some u := by
  rcases h with ⟨_, rfl⟩ | ⟨a, c', e, _, _, hx⟩
  · simp at hp
  · injection e with e1
    refine ⟨a, e1, fun j u hu => ?_⟩
    rw [bc_at] at hu
    obtain ⟨x, hx', rfl⟩ := Option.map_eq_some_iff.1 hu
    exact hx j x hx'

theorem Own.nil (w : World) (B : Nat) : Own w B (.slice none 0 0) [] := World.ownsRow_nil w B _ 1
theorem Own.bs (h : Own w B v l) : Bs w v l := by
  rcases h.2 with ⟨rfl, hn⟩ | ⟨g, cap, cur, rfl, _, hg, hc, hm, _⟩
  · exact .inl ⟨rfl, List.eq_nil_of_length_eq_zero hn⟩
  · exact .inr ⟨_, cap, rfl, hc, hm, fun j x hj => World.ownsRow.cells h rfl j _ (by rw [bc_at, hj]; rfl)⟩
theorem Own.grown (h : Own w B v l) {row : Option Nat} (hg : w.grownBy w' row) (hne : v.ownBlock = none ∨ v.ownBlock ≠ row) : Own w' B v l := World.ownsRow.kept h hg hne
theorem grownBy_of_below (hb : Below w.heap.size w w') (row : Option Nat) : w.grownBy w' row := ⟨hb.os, hb.tape, hb.output, hb.size, fun k hk _ => hb.block k hk⟩
theorem Own.below (h : Own w B v l) (hb : Below w.heap.size w w') : Own w' B v l := h.grown (grownBy_of_below hb none) (by cases v.ownBlock <;> simp)
theorem Own.alloc (h : Own w B v l) (o : Obj) : Own (w.alloc o) B v l := h.below ((Below.refl _ _).alloc (Nat.le_refl _) o)
theorem Own.drew (h : Own w B v l) : Own w.drew B v l := h
theorem Own.drewN (h : Own w B v l) (n : Nat) : Own (w.drewN n) B v l := h
theorem Own.less {B' : Nat} (h : Own w B v l) (hB : B' ≤ B) : Own w B' v l := by
  refine ⟨h.1, ?_⟩
  rcases h.2 with hn | ⟨g, cap, cur, hv, hb, rest⟩
  · exact .inl hn
  · exact .inr ⟨g, cap, cur, hv, Nat.le_trans hB hb, rest⟩
theorem Own.blk (h : Own w B v l) : ∀ k, v.ownBlock = some k → B ≤ k ∧ k < w.heap.size := World.ownsRow.lt h
theorem Own.lit (w : World) (l : List UInt8) (hB : B ≤ w.heap.size) (hl : l.length ≤ maxLen) : Own (w.alloc (.cells (bc l).toArray 5)) B (.slice (some ⟨w.heap.size, 0, none⟩) l.length l.length) l := by
  have := World.ownsRow_lit (base := B) (e := 5) (size := 1) w (bc l).toArray l.length hB hl (by simp [bc_length])
  exact this
theorem Own.single (w : World) (z : Int) (x : UInt8) (h : z = (x.toNat : Int)) (hB : B ≤ w.heap.size) : Own (w.alloc (.cells #[.int .u8 z] 5)) B (.slice (some ⟨w.heap.size, 0, none⟩) 1 1) [x] := by
  have := Own.lit (B := B) w [x] hB (by unfold maxLen; simp)
  simpa [bc, h] using this
theorem Own.boxed (w : World) (o : Obj) (z : Int) (x : UInt8) (h : z = (x.toNat : Int)) : Own ((w.alloc o).alloc (.cells #[.int .u8 z] 5)) w.heap.size (.slice (some ⟨w.heap.size + 1, 0, none⟩) 1 1) [x] := by
  have := Own.single (B := w.heap.size) (w.alloc o) z x h (by simp)
  simpa using this
theorem Bs.single (w : World) (z : Int) (x : UInt8) (t : TypeId) (h : z = (x.toNat : Int)) (b : Nat) (hb : b = w.heap.size) : Bs (w.alloc (.cells #[.int .u8 z] t)) (.slice (some ⟨b, 0, none⟩) 1 1) [x] := by
  subst hb
  refine .inr ⟨_, 1, rfl, Nat.le_refl _, by unfold maxLen; omega, fun j y hj => ?_⟩
  match j, hj with
  | 0, hj => simp at hj; subst hj; simp [Addr.add, go_sem, h]
end

theorem below_trans {a b c : World} (h : Below a.heap.size a b) (k : Below b.heap.size b c) : Below a.heap.size a c := h.trans (k.mono h.size)
theorem below_ownB {a w w' : World} {v : Value} {l : List UInt8} (hb : Below a.heap.size a w) (hown : Own w a.heap.size v l) (hg : w.grownBy w' v.ownBlock) : Below a.heap.size a w' :=
  hb.grown hg hb.size fun k e => (hown.blk k e).1

section
variable {P : Program} {w : World}

theorem run_append_bs (B : Nat) (t ty : TypeId) (i : TypeInfo) (ht : P.underlying t = some (.slice 5)) (hi : P.info? 5 = some i) (hz : i.zero = some (.int .u8 0)) (hsize : i.size = 1) (hby : i.bytes = 1)
    (v : Value) (l : List UInt8) (hown : Own w B v l) (y : Value) (m : List UInt8) (hy : Bs w y m) (h47 : l.length + m.length ≤ 140737488355328) (hB : B ≤ w.heap.size) :
    ∃ v' w', (Builtin.append_ #[t, t] ty #[v, y]).run P w = .ok v' w' ∧ Own w' B v' (l ++ m) ∧ w.grownBy w' v.ownBlock := by
  rcases hy with ⟨rfl, rfl⟩ | ⟨a, c, rfl, _, _, hc⟩
  · refine ⟨v, w, run_append_owned_none w B t ty 5 i 1 ht hi v _ _ hown, by simpa using hown, ⟨rfl, rfl, rfl, Nat.le_refl _, fun _ _ _ => rfl⟩⟩
  · obtain ⟨v', w', hr, ho, hg, _⟩ := run_append_own (P := P) w B t ty 5 i (.int .u8 0) 1 1 ht hi hz hsize hby rfl (by decide) v l.length (bc l) hown a m.length c (bc m) (by simp [bc_length])
      (fun j u hu => by
        rw [bc_at] at hu
        obtain ⟨x, hx, rfl⟩ := Option.map_eq_some_iff.1 hu
        exact hc j x hx) (bc_one m) (by unfold maxLen; omega) (by omega) hB
    exact ⟨v', w', hr, by unfold Own; rw [bc_append, List.length_append]; exact ho, hg⟩

theorem wpList_append_bs {ops : Array Oper} {rest : List Oper} {o : Oper} {a : Act} {Q : Exit → Act → World → Prop} (hgd : o.guard = none) (s x : Operand) (t : TypeId)
    (ho : o.op = .call { callee := .builtin .append, args := #[s, x], argTypes := #[t, t] })
    (B : Nat) (i : TypeInfo) (ht : P.underlying t = some (.slice 5)) (hi : P.info? 5 = some i) (hz : i.zero = some (.int .u8 0)) (hsize : i.size = 1) (hby : i.bytes = 1)
    (v : Value) (l : List UInt8) (hs : a.eval s = v) (hown : Own w B v l) (y : Value) (m : List UInt8) (hx : a.eval x = y) (hy : Bs w y m) (h47 : l.length + m.length ≤ 140737488355328) (hB : B ≤ w.heap.size)
    (h : ∀ v' w', Own w' B v' (l ++ m) → w.grownBy w' v.ownBlock → wpList P ops Q rest (a.put o.dst v') w') : wpList P ops Q (o :: rest) a w := by
  obtain ⟨v', w', hrun, h2, h3⟩ := run_append_bs (P := P) (w := w) B t o.type i ht hi hz hsize hby v l hown y m hy h47 hB
  refine wpList_plain hgd fun K hK => ?_
  unfold Oper.wp execOp
  simp only [ho, resolve, invoke, builtin, Sem.run_bind, Sem.run_pure, Result.andThen_ok, List.map_toArray, List.map_cons, List.map_nil, hs, hx, hrun]
  exact hK _ _ (h v' w' h2 h3)

theorem wpList_append_str {ops : Array Oper} {rest : List Oper} {o : Oper} {a : Act} {Q : Exit → Act → World → Prop} (hgd : o.guard = none) (sl x : Operand) (t u : TypeId)
    (ho : o.op = .call { callee := .builtin .append, args := #[sl, x], argTypes := #[t, u] })
    (B : Nat) (i : TypeInfo) (ht : P.underlying t = some (.slice 5)) (hu : P.underlying u = some .string) (hi : P.info? 5 = some i) (hz : i.zero = some (.int .u8 0)) (hsize : i.size = 1) (hby : i.bytes = 1)
    (v : Value) (l : List UInt8) (hs : a.eval sl = v) (hown : Own w B v l) (s : ByteArray) (hx : a.eval x = .string s) (h47 : l.length + s.size ≤ 140737488355328) (hB : B ≤ w.heap.size)
    (h : ∀ v' w', Own w' B v' (l ++ s.data.toList) → w.grownBy w' v.ownBlock → wpList P ops Q rest (a.put o.dst v') w') : wpList P ops Q (o :: rest) a w :=
  Lib.wpList_append_own_string w hgd sl x t u ho B 5 i ht hu hi hz hsize hby v l.length (bc l) hs hown s hx (by unfold maxLen; omega) h47 hB fun v' w' h2 h3 _ =>
    h v' w' (by unfold Own; rw [bc_append, List.length_append, Array.length_toList]; exact h2) h3

end

end Go.Proofs.YtkkfhbcnfknmaaaGreat

namespace Go.Proofs.YtkkfhbcnfknmaaaGreat
open Go.RowKit

def szd (n : Int) : Nat := (min (max n 0) 8).toNat
theorem szd_le (n : Int) : szd n ≤ 8 := by unfold szd; omega
def MadeB (w : World) (l : List UInt8) (e : Ending) (w' : World) : Prop := ∃ v', e = .returned v' ∧ Own w' w.heap.size v' l ∧ Below w.heap.size w w'

theorem sized (n : Int) (w : World) : Calls Tryz.prog 202 #[.int .i64 n] w fun e w' => e = .returned (.int .i64 (szd n)) ∧ w = w' := by
  by_cases h0 : n < 0
  · go_enter Tryz.func202, Tryz.ntmps202
    go_wp2
    go_ret
    exact ⟨ret_int (by unfold szd; omega), rfl⟩
  · by_cases h8 : n ≤ 8
    · go_enter Tryz.func202, Tryz.ntmps202
      go_wp2
      go_ret
      exact ⟨ret_int (by unfold szd; omega), rfl⟩
    · go_enter Tryz.func202, Tryz.ntmps202
      go_wp2
      go_ret
      exact ⟨ret_int (by unfold szd; omega), rfl⟩

theorem leBytes_snoc : ∀ (j n : Nat), Lib.leBytes (j + 1) n = Lib.leBytes j n ++ [(n / 256 ^ j % 256).toUInt8]
  | 0, n => by simp [Lib.leBytes]
  | j + 1, n => by
    rw [Lib.leBytes, leBytes_snoc j (n / 256), Lib.leBytes, List.cons_append, Nat.div_div_eq_div_mul, Nat.pow_succ, Nat.mul_comm 256]
theorem div_pow_succ (n j : Nat) : n / 256 ^ j / 256 = n / 256 ^ (j + 1) := by rw [Nat.div_div_eq_div_mul, Nat.pow_succ]

theorem own_copied {w : World} {B g cap : Nat} {l : List UInt8} {cur : List Value} (hB : B ≤ g) (hc : cur.length = cap) (hl : l.length ≤ cap) (hm : cap ≤ maxLen) (h : w.heap[g]? = some (.cells (splice cur 0 (bc l)).toArray 5 (0, 0))) :
    Own w B (.slice (some ⟨g, 0, none⟩) l.length cap) l := by
  refine ⟨by simp [bc_length], .inr ⟨g, cap, _, rfl, hB, h, hl, hm, ?_, ?_⟩⟩
  · rw [List.size_toArray, length_splice _ _ _ (by rw [bc_length]; omega)]; omega
  · simp [splice, ← bc_length l]

set_option maxHeartbeats 1000000 in
theorem put (v : Value) (l : List UInt8) (n : Nat) (size : Int) (w : World) (hv : Bs w v l) (hn : n < 18446744073709551616) (h47 : l.length + 8 ≤ 140737488355328) :
    Calls Tryz.prog 185 #[v, .int .u64 n, .int .i64 size] w (MadeB w (l ++ Lib.leBytes (szd size) n)) := by
  obtain ⟨i0, hi, hz0, hz1, hz2⟩ := info_parts u8_info
  obtain ⟨A, c, rfl, hc⟩ := hv.form
  have hk8 := szd_le size
  obtain ⟨k, hk⟩ : ∃ k, k = szd size := ⟨_, rfl⟩
  rw [← hk] at hk8 ⊢
  have HK := Lib.hid hk
  clear hk
  have hmk : ∀ W : World, (Instr.makeSlice 232 (.int .i64 (l.length : Int)) (.int .i64 ((l.length : Int) + (k : Int)))).run Tryz.prog W = .ok (.slice (some ⟨W.heap.size, 0, none⟩) l.length (l.length + k)) (W.alloc (.cells (madeCells #[.int .u8 0] (l.length + k)) 5)) := fun W => by
    have := run_make (P := Tryz.prog) W 232 5 i0 (.int .u8 0) Tryz.underlying232 hi hz0 .i64 .i64 (l.length : Int) ((l.length : Int) + (k : Int)) (by omega) (by omega) (by rw [hz2]; omega) (by omega)
    rw [this, hz1]
    have e : ((l.length : Int) + (k : Int)).toNat = l.length + k := by omega
    simp [e, Value.cells]
  have hlen : (madeCells #[.int .u8 0] (l.length + k)).toList.length = l.length + k := by simp [size_madeCells]
  have HL := Lib.hid hlen
  clear hlen
  have hsz : (Tryz.prog.info? 5).map (·.size) = some 1 := by kernel_rfl
  have HS := Lib.hid hsz
  clear hsz
  go_enter Tryz.func185, Tryz.ntmps185
  go_wp2_with (first | (go_at_call 202; rw [HK.out]; refine (sized _ _).mono ?_; rintro e w' ⟨rfl, rfl⟩; rw [← HK.out]) | (with_reducible refine wpList_copy_splice rfl (.tmp 17) (.tmp 18) 232 232 rfl 5 Tryz.underlying232 HS.out (some ⟨w.heap.size, 0, none⟩) A l.length (l.length + k) l.length c rfl rfl w.heap.size 0 (madeCells #[.int .u8 0] (l.length + k)).toList 5 ?c1 (bc l) ?c2 ?c3 ?c4 (bc_one l) w.heap.size w ((Below.refl _ _).alloc (Nat.le_refl _) _) (Nat.le_refl _) ?_))
  case c1 => rw [Array.toArray_toList]; exact heap_alloc_new w _
  case c2 => rw [bc_length]; exact (Nat.min_self _).symm
  case c3 =>
    intro hp
    rw [bc_length] at hp
    exact (hv.alloc _).src hp
  case c4 => rw [HL.out, bc_length]; omega
  intro w1 HW hb1
  have hown0 := own_copied (Nat.le_refl w.heap.size) HL.out (Nat.le_add_right l.length k) (by unfold maxLen; omega) HW.out
  clear HW HL hmk
  go_wp2_with fail
  go_loopw [1, 7, 21] (fun nv ov i wr => ∃ j : Nat, j ≤ k ∧ i = .int .i64 j ∧ nv = .int .u64 (n / 256 ^ j : Nat) ∧ Own wr w.heap.size ov (l ++ Lib.leBytes j n) ∧ Below w.heap.size w wr) (fun _ _ i _ => k - (intOf i).toNat)
  case atStart => exact ⟨0, Nat.zero_le _, rfl, by simp, by simpa [Lib.leBytes] using hown0, hb1⟩
  case round =>
    obtain ⟨j, hj, rfl, rfl, hown, hb⟩ := hrel
    obtain ⟨q, hq⟩ : ∃ q, q = n / 256 ^ j := ⟨_, rfl⟩
    have hqn : q < 18446744073709551616 := by rw [hq]; exact Nat.lt_of_le_of_lt (Nat.div_le_self _ _) hn
    rw [← hq]
    have HQ := Lib.hid hq
    clear hq
    by_cases h1 : j < k
    · go_wp2_with ((at_builtin; refine wpList_append_bs rfl (.tmp 23) (.tmp 26) 232 rfl w.heap.size i0 Tryz.underlying232 hi hz0 hz1 hz2 _ _ rfl (hown.alloc _) _ [(q % 256).toUInt8] rfl (Bs.single _ _ _ _ ?c5 _ rfl) ?c6 ?c7 ?_))
      case c5 => rw [Lib.toUInt8_mod]; omega
      case c6 => simp [Lib.leBytes_length]; omega
      case c7 => have := hb.size; simp; omega
      intro v' w2 hown2 hg2
      go_wp2_with fail
      go_roundw
      case rel => exact ⟨j + 1, by omega, by go_num, by rw [← div_pow_succ, ← HQ.out]; go_num, by rw [leBytes_snoc, ← HQ.out]; exact hown2, below_ownB (hb.alloc hb.size _) (hown.alloc _) hg2⟩
      case measure => simp [intOf]; omega
    · obtain rfl : j = k := by omega
      go_wp2_with fail
      go_ret
      exact ⟨_, rfl, hown, hb⟩


def txtB (s : ByteArray) : List UInt8 := Lib.leBytes 2 s.size ++ s.data.toList
theorem txtB_length (s : ByteArray) : (txtB s).length = 2 + s.size := by simp [txtB, Lib.leBytes_length]

theorem ptext (v : Value) (l : List UInt8) (s : ByteArray) (w : World) (hv : Bs w v l) (h47 : l.length + 8 + s.size ≤ 140737488355328) :
    Calls Tryz.prog 186 #[v, .string s] w (MadeB w (l ++ txtB s)) := by
  obtain ⟨i0, hi, hz0, hz1, hz2⟩ := info_parts u8_info
  go_enter Tryz.func186, Tryz.ntmps186
  go_wp2_with fail
  refine (put v l s.size 2 w hv (by omega) (by omega)).mono ?_
  rintro e w1 ⟨v1, rfl, hown1, hb1⟩
  go_wp2_with ((at_builtin; refine wpList_append_str rfl (.tmp 9) (.tmp 10) 232 9 rfl w.heap.size i0 Tryz.underlying232 Tryz.underlying9 hi hz0 hz1 hz2 _ _ rfl hown1 s rfl ?c6 hb1.size ?_))
  case c6 => simp [Lib.leBytes_length, szd]; omega
  intro v2 w2 hown2 hg2
  go_wp2_with fail
  go_ret
  exact ⟨_, rfl, hown2, below_ownB hb1 hown1 hg2⟩

def u64of (n : Int) : Nat := (n % 18446744073709551616).toNat
theorem u64of_lt (n : Int) : u64of n < 18446744073709551616 := by unfold u64of; omega
theorem wrap_u64of (n : Int) : IntKind.u64.wrap n = (u64of n : Int) := by rw [IntKind.wrap_u64]; unfold u64of; omega
def valB (k n : Int) (s : ByteArray) : List UInt8 :=
  Lib.leBytes 1 k.toNat ++ (if k = 1 then Lib.leBytes 1 (u64of n) else if k = 2 then Lib.leBytes 8 (u64of n) else if k = 3 then txtB s else [])

theorem box3 {w w1 : World} {a0 a1 a2 : Value} {t : TypeId} (h : Below (w.alloc (.cells #[a0, a1, a2] t)).heap.size (w.alloc (.cells #[a0, a1, a2] t)) w1) :
    w1.cell? ⟨w.heap.size, 0, none⟩ = some a0 ∧ w1.cell? ⟨w.heap.size, 1, none⟩ = some a1 ∧ w1.cell? ⟨w.heap.size, 2, none⟩ = some a2 := by
  refine ⟨?_, ?_, ?_⟩ <;> (rw [h.cell (p := ⟨w.heap.size, _, none⟩) (by simp)]; simp [go_sem])
theorem below_box {w w1 : World} {o : Obj} (h : Below (w.alloc o).heap.size (w.alloc o) w1) : Below w.heap.size w w1 := below_trans ((Below.refl _ _).alloc (Nat.le_refl _) o) h
theorem own_box {w w1 : World} {o : Obj} {v : Value} {l : List UInt8} (h : Own w1 (w.alloc o).heap.size v l) : Own w1 w.heap.size v l := h.less (by simp)

set_option maxHeartbeats 1000000 in
theorem pvalue1 (v : Value) (l : List UInt8) (n : Int) (s : ByteArray) (w : World) (hv : Bs w v l) (h47 : l.length + 17 ≤ 140737488355328) :
    Calls Tryz.prog 155 #[v, vv 1 n s] w (MadeB w (l ++ valB 1 n s)) := by
  go_enter Tryz.func155, Tryz.ntmps155
  go_wp2_with fail
  refine (put v l 1 1 _ (hv.alloc _) (by omega) (by omega)).mono ?_
  rintro e w1 ⟨v1, rfl, hown1, hb1⟩
  obtain ⟨b0, b1, b2⟩ := box3 hb1
  go_wp2_with fail
  rw [wrap_u64of]
  with_reducible refine (put v1 _ (u64of n) 1 _ hown1.bs (u64of_lt n) (by simp [Lib.leBytes_length, szd]; omega)).mono ?_
  rintro e w2 ⟨v2, rfl, hown2, hb2⟩
  go_wp2_with fail
  go_ret
  exact ⟨_, rfl, by rw [List.append_assoc] at hown2; exact hown2.less (Nat.le_trans (below_box hb1).size (Nat.le_refl _)), below_trans (below_box hb1) hb2⟩

set_option maxHeartbeats 1000000 in
theorem pvalue2 (v : Value) (l : List UInt8) (n : Int) (s : ByteArray) (w : World) (hv : Bs w v l) (h47 : l.length + 17 ≤ 140737488355328) :
    Calls Tryz.prog 155 #[v, vv 2 n s] w (MadeB w (l ++ valB 2 n s)) := by
  go_enter Tryz.func155, Tryz.ntmps155
  go_wp2_with fail
  refine (put v l 2 1 _ (hv.alloc _) (by omega) (by omega)).mono ?_
  rintro e w1 ⟨v1, rfl, hown1, hb1⟩
  obtain ⟨b0, b1, b2⟩ := box3 hb1
  go_wp2_with fail
  rw [wrap_u64of]
  with_reducible refine (put v1 _ (u64of n) 8 _ hown1.bs (u64of_lt n) (by simp [Lib.leBytes_length, szd]; omega)).mono ?_
  rintro e w2 ⟨v2, rfl, hown2, hb2⟩
  go_wp2_with fail
  go_ret
  exact ⟨_, rfl, by rw [List.append_assoc] at hown2; exact hown2.less (Nat.le_trans (below_box hb1).size (Nat.le_refl _)), below_trans (below_box hb1) hb2⟩
set_option maxHeartbeats 1000000 in
theorem pvalue3 (v : Value) (l : List UInt8) (n : Int) (s : ByteArray) (w : World) (hv : Bs w v l) (h47 : l.length + 17 + s.size ≤ 140737488355328) :
    Calls Tryz.prog 155 #[v, vv 3 n s] w (MadeB w (l ++ valB 3 n s)) := by
  go_enter Tryz.func155, Tryz.ntmps155
  go_wp2_with fail
  refine (put v l 3 1 _ (hv.alloc _) (by omega) (by omega)).mono ?_
  rintro e w1 ⟨v1, rfl, hown1, hb1⟩
  obtain ⟨b0, b1, b2⟩ := box3 hb1
  go_wp2_with fail
  with_reducible refine (ptext v1 _ s _ hown1.bs (by simp [Lib.leBytes_length, szd]; omega)).mono ?_
  rintro e w2 ⟨v2, rfl, hown2, hb2⟩
  go_wp2_with fail
  go_ret
  exact ⟨_, rfl, by rw [List.append_assoc] at hown2; exact hown2.less (Nat.le_trans (below_box hb1).size (Nat.le_refl _)), below_trans (below_box hb1) hb2⟩
set_option maxHeartbeats 1000000 in
theorem pvalue0 (v : Value) (l : List UInt8) (k : Nat) (n : Int) (s : ByteArray) (w : World) (hv : Bs w v l) (hk : k < 256) (h1 : ¬ (k : Int) = 1) (h2 : ¬ (k : Int) = 2) (h3 : ¬ (k : Int) = 3) (h47 : l.length + 17 ≤ 140737488355328) :
    Calls Tryz.prog 155 #[v, vv k n s] w (MadeB w (l ++ valB k n s)) := by
  have hvB : valB k n s = Lib.leBytes 1 k := by simp [valB, h1, h2, h3]
  rw [hvB]
  clear hvB
  go_enter Tryz.func155, Tryz.ntmps155
  go_wp2_with fail
  refine (put v l k 1 _ (hv.alloc _) (by omega) (by omega)).mono ?_
  rintro e w1 ⟨v1, rfl, hown1, hb1⟩
  obtain ⟨b0, b1, b2⟩ := box3 hb1
  go_wp2_with fail
  go_ret
  exact ⟨_, rfl, own_box hown1, below_box hb1⟩
theorem pvalue (v : Value) (l : List UInt8) (k n : Int) (s : ByteArray) (w : World) (hv : Bs w v l) (hk : 0 ≤ k) (hk' : k < 256) (h47 : l.length + 17 + s.size ≤ 140737488355328) :
    Calls Tryz.prog 155 #[v, vv k n s] w (MadeB w (l ++ valB k n s)) := by
  by_cases h1 : k = 1
  · subst h1; exact pvalue1 v l n s w hv (by omega)
  · by_cases h2 : k = 2
    · subst h2; exact pvalue2 v l n s w hv (by omega)
    · by_cases h3 : k = 3
      · subst h3; exact pvalue3 v l n s w hv h47
      · obtain ⟨k, rfl⟩ := Int.eq_ofNat_of_zero_le hk
        exact pvalue0 v l k n s w hv (by omega) h1 h2 h3 (by omega)

end Go.Proofs.YtkkfhbcnfknmaaaGreat

namespace Go.Proofs.YtkkfhbcnfknmaaaGreat
set_option maxRecDepth 100000
open Go.RowKit

end Go.Proofs.YtkkfhbcnfknmaaaGreat

namespace Go.Proofs.YtkkfhbcnfknmaaaGreat
set_option maxRecDepth 100000
open Go.RowKit

def byteStep (n : Nat) (c : UInt8) : Nat := (n ^^^ c.toNat) * 1099511628211 % 18446744073709551616
def bytesN : Nat → List UInt8 → Nat
  | key, [] => key
  | key, c :: l => bytesN (byteStep key c) l
def hashN (seed : Nat) (k n : Int) (s : ByteArray) : Nat := mixN (bytesN (keyN seed) (valB k n s))
theorem byteStep_lt (n : Nat) (c : UInt8) : byteStep n c < 18446744073709551616 := Nat.mod_lt _ (by decide)
theorem bytesN_lt : ∀ (l : List UInt8) {key : Nat}, key < 18446744073709551616 → bytesN key l < 18446744073709551616
  | [], _, h => h
  | c :: l, key, _ => by rw [bytesN]; exact bytesN_lt l (byteStep_lt key c)
theorem bytesN_snoc : ∀ (l : List UInt8) (key : Nat) (c : UInt8), bytesN key (l ++ [c]) = byteStep (bytesN key l) c
  | [], _, _ => rfl
  | d :: l, key, c => by rw [List.cons_append, bytesN, bytesN, bytesN_snoc l]
theorem bytesN_take {key : Nat} {l : List UInt8} {j : Nat} (hj : j < l.length) : bytesN key (l.take (j + 1)) = byteStep (bytesN key (l.take j)) l[j] := by
  rw [List.take_add_one, List.getElem?_eq_getElem hj, Option.toList_some, bytesN_snoc]
theorem byteStep_run {n : Nat} (hn : n < 18446744073709551616) (c : UInt8) : IntKind.u64.wrap (bits .xor .u64 (n : Int) (IntKind.u64.wrap (c.toNat : Int)) * 1099511628211) = ((byteStep n c : Nat) : Int) := by
  have : c.toNat < 256 := c.toNat_lt
  rw [show IntKind.u64.wrap (c.toNat : Int) = (c.toNat : Int) by rw [IntKind.wrap_u64]; omega, bits_xor_u64_nat n c.toNat hn (by omega), IntKind.wrap_u64]
  unfold byteStep
  omega

theorem valB_le (k n : Int) (s : ByteArray) : (valB k n s).length ≤ 17 + s.size := by
  unfold valB
  rw [List.length_append, Lib.leBytes_length]
  split
  · rw [Lib.leBytes_length]; omega
  · split
    · rw [Lib.leBytes_length]; omega
    · split
      · rw [txtB_length]; omega
      · simp; omega

def Hs (w : World) (b seed : Nat) : Prop := ∃ (d : Int) (q key : Nat), Row w b seed d 0 q key ∧ (d = 0 ∨ d = 1 ∧ key = keyN seed)
section
variable {w w' : World} {b seed : Nat}
theorem Hs.lt (h : Hs w b seed) : b < w.heap.size := by obtain ⟨_, _, _, h, _⟩ := h; exact h.lt
theorem Hs.below (h : Hs w b seed) (hb : Below w.heap.size w w') : Hs w' b seed := by obtain ⟨d, q, key, h, k⟩ := h; exact ⟨d, q, key, h.below hb, k⟩
theorem Hs.grown (h : Hs w b seed) {row : Option Nat} (hg : w.grownBy w' row) (hb : some b ≠ row) : Hs w' b seed := by obtain ⟨d, q, key, h, k⟩ := h; exact ⟨d, q, key, h.grown hg hb, k⟩
theorem Hs.alloc (h : Hs w b seed) (o : Obj) : Hs (w.alloc o) b seed := h.below ((Below.refl _ _).alloc (Nat.le_refl _) o)
end

theorem hnew (seed : Nat) (w : World) : Calls Tryz.prog 60 #[.int .u64 seed] w fun e w' => e = .returned (.pointer (some ⟨w.heap.size, 0, none⟩)) ∧ Hs w' w.heap.size seed ∧ Gw w w' := by
  go_enter Tryz.func60, Tryz.ntmps60
  go_wp2
  go_ret
  exact ⟨rfl, ⟨0, 0, 0, heap_alloc_new w _, .inl rfl⟩, (Gw.refl _).alloc _ _⟩

set_option maxRecDepth 100000 in
set_option maxHeartbeats 1600000 in
theorem do_first (b seed q key : Nat) (pl : Addr) (hpb : ¬ b = pl.block) (w : World) (hp : w.cell? pl = some (.pointer (some ⟨b, 0, none⟩))) (h : Row w b seed 0 0 q key) :
    Calls Tryz.prog 183 #[.pointer (some ⟨b, 1, none⟩), .func (.func 184) #[] #[.pointer (some pl)]] w fun e w' => e = .returned (.tuple #[]) ∧
      w' = ((((w.setCell ⟨b, 2, none⟩ (.int .i32 1)).drew.setCell ⟨b, 4, none⟩ (.int .u64 (keyN seed))).drew.setCell ⟨b, 1, none⟩ (.int .u32 1)).setCell ⟨b, 2, none⟩ (.int .i32 0)) := by
  have hl := run_call_load (P := Tryz.prog) Tryz.func210 (by kernel_rfl) (by kernel_rfl) (by kernel_rfl) .u32 (by kernel_rfl) h.c1
  have hnot : ∀ (x : Bool) (w : World), (Op.unary .not (.bool x)).run Tryz.prog w = .ok (.bool (!x)) w := fun _ _ => rfl
  go_enter Tryz.func183, Tryz.ntmps183
  go_wp2_with (first | (go_at_call 201; refine (slow b seed q key pl hpb w hp h).mono ?_; rintro e w' ⟨rfl, rfl⟩) | (go_at_call 200; go_in))
  go_end0
  exact ⟨rfl, rfl⟩
theorem do_done (b seed q key : Nat) (fv : Value) (w : World) (h : Row w b seed 1 0 q key) :
    Calls Tryz.prog 183 #[.pointer (some ⟨b, 1, none⟩), fv] w fun e w' => e = .returned (.tuple #[]) ∧ w' = w := by
  have hl := run_call_load (P := Tryz.prog) Tryz.func210 (by kernel_rfl) (by kernel_rfl) (by kernel_rfl) .u32 (by kernel_rfl) h.c1
  have hnot : ∀ (x : Bool) (w : World), (Op.unary .not (.bool x)).run Tryz.prog w = .ok (.bool (!x)) w := fun _ _ => rfl
  go_enter Tryz.func183, Tryz.ntmps183
  go_wp2
  go_end0
  exact ⟨rfl, rfl⟩

theorem first_row {w : World} {b seed q key : Nat} (h : Row w b seed 0 0 q key) : Row ((((w.setCell ⟨b, 2, none⟩ (.int .i32 1)).drew.setCell ⟨b, 4, none⟩ (.int .u64 (keyN seed))).drew.setCell ⟨b, 1, none⟩ (.int .u32 1)).setCell ⟨b, 2, none⟩ (.int .i32 0)) b seed 1 0 q (keyN seed) :=
  ((((h.set2 1).drew.set4 (keyN seed)).drew.set1 1).set2 0)
theorem first_grown (w : World) (b : Nat) (x y z u : Value) : w.grownBy ((((w.setCell ⟨b, 2, none⟩ x).drew.setCell ⟨b, 4, none⟩ y).drew.setCell ⟨b, 1, none⟩ z).setCell ⟨b, 2, none⟩ u) (some b) := by
  have d : ∀ v : World, v.grownBy v.drew (some b) := fun v => ⟨rfl, rfl, rfl, Nat.le_refl _, fun _ _ _ => rfl⟩
  exact (((((grownBy_setCell w b 2 x).trans (d _)).trans (grownBy_setCell _ b 4 y)).trans (d _)).trans (grownBy_setCell _ b 1 z)).trans (grownBy_setCell _ b 2 u)

abbrev hp (b : Nat) : Value := .pointer (some ⟨b, 0, none⟩)
set_option maxHeartbeats 1600000 in
theorem start (b seed : Nat) (w : World) (h : Hs w b seed) : Calls Tryz.prog 154 #[hp b] w fun e w' => e = .returned (.int .u64 (keyN seed)) ∧ Hs w' b seed ∧ w.grownBy w' (some b) := by
  obtain ⟨d, q, key, hr, hd⟩ := h
  have hmf : ∀ (fn : Go.Fn) (first cap : Array Value) (w : World), (Instr.makeFunc fn first cap).run Tryz.prog w = .ok (.func fn first cap) w := fun _ _ _ _ => rfl
  have hlt := hr.lt
  have hr' : Row (w.alloc (.cells #[hp b] 24)) b seed d 0 q key := hr.below ((Below.refl _ _).alloc (Nat.le_refl _) _)
  have hpl : (w.alloc (.cells #[hp b] 24)).cell? ⟨w.heap.size, 0, none⟩ = some (hp b) := by simp [go_sem]
  have hal : w.grownBy (w.alloc (.cells #[hp b] 24)) (some b) := World.grownBy_alloc _ _ _
  rcases hd with rfl | ⟨rfl, rfl⟩
  · have hr2 := first_row hr'
    have hg2 := first_grown (w.alloc (.cells #[hp b] 24)) b (.int .i32 1) (.int .u64 (keyN seed)) (.int .u32 1) (.int .i32 0)
    have hp2 := hg2.cell hpl (by simp; omega)
    have c4 := hr2.c4
    have hres : Hs _ b seed := ⟨1, q, keyN seed, hr2, .inr ⟨rfl, rfl⟩⟩
    have HG := Lib.hid (hal.trans hg2)
    have HR := Lib.hid hres
    clear hr2 hg2 hres
    go_enter Tryz.func154, Tryz.ntmps154
    go_wp2_with (go_at_call 183; refine (do_first b seed q key ⟨w.heap.size, 0, none⟩ (by simp; omega) _ hpl hr').mono ?_; rintro e w' ⟨rfl, hw⟩; rw [← hw] at hp2 c4 HG HR; clear hw)
    go_ret
    exact ⟨rfl, HR.out, HG.out⟩
  · have c4 := hr'.c4
    go_enter Tryz.func154, Tryz.ntmps154
    go_wp2_with (go_at_call 183; refine (do_done b seed q _ _ _ hr').mono ?_; rintro e w' ⟨rfl, rfl⟩)
    go_ret
    exact ⟨rfl, ⟨1, q, _, hr', .inr ⟨rfl, rfl⟩⟩, hal⟩

theorem box3g {w w1 : World} {a0 a1 a2 : Value} {t : TypeId} {b : Nat} (h : (w.alloc (.cells #[a0, a1, a2] t)).grownBy w1 (some b)) (hb : b < w.heap.size) :
    w1.cell? ⟨w.heap.size, 0, none⟩ = some a0 ∧ w1.cell? ⟨w.heap.size, 1, none⟩ = some a1 ∧ w1.cell? ⟨w.heap.size, 2, none⟩ = some a2 := by
  refine ⟨h.cell ?_ ?_, h.cell ?_ ?_, h.cell ?_ ?_⟩ <;> first | (simp; omega) | simp [go_sem]

set_option maxHeartbeats 1600000 in
theorem hof (b seed : Nat) (k n : Int) (s : ByteArray) (w : World) (h : Hs w b seed) (hk : 0 ≤ k) (hk' : k ≤ 255) (h47 : 17 + s.size ≤ 140737488355328) :
    Calls Tryz.prog 101 #[hp b, vv k n s] w fun e w' => e = .returned (.int .u64 (hashN seed k n s)) ∧ Hs w' b seed ∧ w.grownBy w' (some b) := by
  have hlt := h.lt
  go_enter Tryz.func101, Tryz.ntmps101
  go_wp2_with fail
  refine (start b seed _ (h.alloc _)).mono ?_
  rintro e w1 ⟨rfl, h1, g1⟩
  obtain ⟨c0, c1, c2⟩ := box3g g1 hlt
  have hg1 : w.grownBy w1 (some b) := World.grownBy.trans (World.grownBy_alloc _ _ _) g1
  clear g1
  go_wp2_with fail
  refine (pvalue _ [] k n s w1 (Bs.nil _) hk (by omega) (by simp; omega)).mono ?_
  rintro e w2 ⟨v2, rfl, hown, hb2⟩
  rw [List.nil_append] at hown
  have hres : Hs w2 b seed ∧ w.grownBy w2 (some b) := ⟨h1.below hb2, grownBy_then hg1 hb2⟩
  have HB := Lib.hid hown.bs
  have HR := Lib.hid hres
  obtain ⟨A, c, rfl, hc⟩ := hown.bs.form
  have hlen : (valB k n s).length ≤ 140737488355328 := by have := valB_le k n s; omega
  obtain ⟨l, hl⟩ : ∃ l, l = valB k n s := ⟨_, rfl⟩
  rw [← hl] at HB hc hlen ⊢
  have HL := Lib.hid hl
  clear hl hown hb2 hg1 h1 c0 c1 c2 hres h
  go_wp2_with fail
  go_loopw [5, 15] (fun nv i wr => ∃ j : Nat, j ≤ l.length ∧ i = .int .i64 j ∧ nv = .int .u64 (bytesN (keyN seed) (l.take j)) ∧ w2 = wr) (fun _ i _ => l.length - (intOf i).toNat)
  case atStart => exact ⟨0, Nat.zero_le _, rfl, by simp [bytesN], rfl⟩
  case round =>
    obtain ⟨j, hj, rfl, rfl, rfl⟩ := hrel
    obtain ⟨m, hm⟩ : ∃ m, m = bytesN (keyN seed) (l.take j) := ⟨_, rfl⟩
    have hmn : m < 18446744073709551616 := by rw [hm]; exact bytesN_lt _ (keyN_lt _)
    rw [← hm]
    have HM := Lib.hid hm
    clear hm
    by_cases h1 : j < l.length
    · obtain ⟨b', o', c', e', hx⟩ := HB.out.at h1
      injection e' with eA _ _
      subst eA
      obtain ⟨x, hxl⟩ : ∃ x, x = l[j] := ⟨_, rfl⟩
      rw [← hxl] at hx
      have HX := Lib.hid hxl
      clear hxl
      go_wp2_with fail
      go_roundw
      case rel => exact ⟨j + 1, by omega, by go_num, by rw [bytesN_take h1, ← HM.out, ← HX.out, byteStep_run hmn], trivial⟩
      case measure => simp [intOf]; omega
    · obtain rfl : j = l.length := by omega
      rw [List.take_length] at HM
      go_wp2_with fail
      refine (mix m hmn _).mono ?_
      rintro e w' ⟨rfl, rfl⟩
      go_wp2_with fail
      go_ret
      exact ⟨ret_int (by rw [HM.out, HL.out]; rfl), HR.out⟩

end Go.Proofs.YtkkfhbcnfknmaaaGreat

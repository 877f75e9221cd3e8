/- Several texts in one. -/
import Derived.Test.YthcpjehkjhpjfaaGreatMh02
import Derived.Test.YthcpjehkjhpjfaaGreatMh01
import Derived.Laws.OwnMore
import Derived.OwnWalk
import Derived.Deep.RegionLaw
import Derived.Lib.Hide
import Derived.Lib.SliceRun
import Derived.Laws.IdiomCopy
namespace Go.Proofs.YthcpjehkjhpjfaaGreat
set_option maxRecDepth 100000
open Go.RowKit

def byteStep (n : Nat) (c : UInt8) : Nat := (n ^^^ c.toNat) * 1099511628211 % 18446744073709551616
def bytesN : Nat → List UInt8 → Nat
  | key, [] => key
  | key, c :: l => bytesN (byteStep key c) l
def hashN (seed : Nat) (k n : Int) (s : ByteArray) : Nat := mixN (bytesN (keyN seed) (valB k n s))
theorem byteStep_lt (n : Nat) (c : UInt8) : byteStep n c < 18446744073709551616 := Nat.mod_lt _ (by decide)
theorem bytesN_lt : ∀ (l : List UInt8) {key : Nat}, key < 18446744073709551616 → bytesN key l < 18446744073709551616
  | [], _, h => h
  | c :: l, key, _ => by rw [bytesN]; exact bytesN_lt l (byteStep_lt key c)
theorem bytesN_snoc : ∀ (l : List UInt8) (key : Nat) (c : UInt8), bytesN key (l ++ [c]) = byteStep (bytesN key l) c
  | [], _, _ => rfl
  | d :: l, key, c => by rw [List.cons_append, bytesN, bytesN, bytesN_snoc l]
theorem bytesN_take {key : Nat} {l : List UInt8} {j : Nat} (hj : j < l.length) : bytesN key (l.take (j + 1)) = byteStep (bytesN key (l.take j)) l[j] := by
  rw [List.take_add_one, List.getElem?_eq_getElem hj, Option.toList_some, bytesN_snoc]
theorem byteStep_run {n : Nat} (hn : n < 18446744073709551616) (c : UInt8) : IntKind.u64.wrap (bits .xor .u64 (n : Int) (IntKind.u64.wrap (c.toNat : Int)) * 1099511628211) = ((byteStep n c : Nat) : Int) := by
  have : c.toNat < 256 := c.toNat_lt
  rw [show IntKind.u64.wrap (c.toNat : Int) = (c.toNat : Int) by rw [IntKind.wrap_u64]; omega, bits_xor_u64_nat n c.toNat hn (by omega), IntKind.wrap_u64]
  unfold byteStep
  omega

theorem valB_le (k n : Int) (s : ByteArray) : (valB k n s).length ≤ 17 + s.size := by
  unfold valB
  rw [List.length_append, Lib.leBytes_length]
  split
  · rw [Lib.leBytes_length]; omega
  · split
    · rw [Lib.leBytes_length]; omega
    · split
      · rw [txtB_length]; omega
      · simp; omega

def Hs (w : World) (b seed : Nat) : Prop := ∃ (d : Int) (q key : Nat), Row w b seed d 0 q key ∧ (d = 0 ∨ d = 1 ∧ key = keyN seed)
section
variable {w w' : World} {b seed : Nat}
theorem Hs.lt (h : Hs w b seed) : b < w.heap.size := by obtain ⟨_, _, _, h, _⟩ := h; exact h.lt
theorem Hs.below (h : Hs w b seed) (hb : Below w.heap.size w w') : Hs w' b seed := by obtain ⟨d, q, key, h, k⟩ := h; exact ⟨d, q, key, h.below hb, k⟩
theorem Hs.grown (h : Hs w b seed) {row : Option Nat} (hg : w.grownBy w' row) (hb : some b ≠ row) : Hs w' b seed := by obtain ⟨d, q, key, h, k⟩ := h; exact ⟨d, q, key, h.grown hg hb, k⟩
theorem Hs.alloc (h : Hs w b seed) (o : Obj) : Hs (w.alloc o) b seed := h.below ((Below.refl _ _).alloc (Nat.le_refl _) o)
end

theorem hnew (seed : Nat) (w : World) : Calls Tryz.prog 37 #[.int .u64 seed] w fun e w' => e = .returned (.pointer (some ⟨w.heap.size, 0, none⟩)) ∧ Hs w' w.heap.size seed ∧ Gw w w' := by
  go_enter Tryz.func37, Tryz.ntmps37
  go_wp2
  go_ret
  exact ⟨rfl, ⟨0, 0, 0, heap_alloc_new w _, .inl rfl⟩, (Gw.refl _).alloc _ _⟩

set_option maxRecDepth 100000 in
set_option maxHeartbeats 1600000 in
theorem do_first (b seed q key : Nat) (pl : Addr) (hpb : ¬ b = pl.block) (w : World) (hp : w.cell? pl = some (.pointer (some ⟨b, 0, none⟩))) (h : Row w b seed 0 0 q key) :
    Calls Tryz.prog 202 #[.pointer (some ⟨b, 1, none⟩), .func (.func 203) #[] #[.pointer (some pl)]] w fun e w' => e = .returned (.tuple #[]) ∧
      w' = ((((w.setCell ⟨b, 2, none⟩ (.int .i32 1)).drew.setCell ⟨b, 4, none⟩ (.int .u64 (keyN seed))).drew.setCell ⟨b, 1, none⟩ (.int .u32 1)).setCell ⟨b, 2, none⟩ (.int .i32 0)) := by
  have hl := run_call_load (P := Tryz.prog) Tryz.func238 (by kernel_rfl) (by kernel_rfl) (by kernel_rfl) .u32 (by kernel_rfl) h.c1
  have hnot : ∀ (x : Bool) (w : World), (Op.unary .not (.bool x)).run Tryz.prog w = .ok (.bool (!x)) w := fun _ _ => rfl
  go_enter Tryz.func202, Tryz.ntmps202
  go_wp2_with (first | (go_at_call 229; refine (slow b seed q key pl hpb w hp h).mono ?_; rintro e w' ⟨rfl, rfl⟩) | (go_at_call 228; go_in))
  go_end0
  exact ⟨rfl, rfl⟩
theorem do_done (b seed q key : Nat) (fv : Value) (w : World) (h : Row w b seed 1 0 q key) :
    Calls Tryz.prog 202 #[.pointer (some ⟨b, 1, none⟩), fv] w fun e w' => e = .returned (.tuple #[]) ∧ w' = w := by
  have hl := run_call_load (P := Tryz.prog) Tryz.func238 (by kernel_rfl) (by kernel_rfl) (by kernel_rfl) .u32 (by kernel_rfl) h.c1
  have hnot : ∀ (x : Bool) (w : World), (Op.unary .not (.bool x)).run Tryz.prog w = .ok (.bool (!x)) w := fun _ _ => rfl
  go_enter Tryz.func202, Tryz.ntmps202
  go_wp2
  go_end0
  exact ⟨rfl, rfl⟩

theorem first_row {w : World} {b seed q key : Nat} (h : Row w b seed 0 0 q key) : Row ((((w.setCell ⟨b, 2, none⟩ (.int .i32 1)).drew.setCell ⟨b, 4, none⟩ (.int .u64 (keyN seed))).drew.setCell ⟨b, 1, none⟩ (.int .u32 1)).setCell ⟨b, 2, none⟩ (.int .i32 0)) b seed 1 0 q (keyN seed) :=
  ((((h.set2 1).drew.set4 (keyN seed)).drew.set1 1).set2 0)
theorem first_grown (w : World) (b : Nat) (x y z u : Value) : w.grownBy ((((w.setCell ⟨b, 2, none⟩ x).drew.setCell ⟨b, 4, none⟩ y).drew.setCell ⟨b, 1, none⟩ z).setCell ⟨b, 2, none⟩ u) (some b) := by
  have d : ∀ v : World, v.grownBy v.drew (some b) := fun v => ⟨rfl, rfl, rfl, Nat.le_refl _, fun _ _ _ => rfl⟩
  exact (((((grownBy_setCell w b 2 x).trans (d _)).trans (grownBy_setCell _ b 4 y)).trans (d _)).trans (grownBy_setCell _ b 1 z)).trans (grownBy_setCell _ b 2 u)

abbrev hp (b : Nat) : Value := .pointer (some ⟨b, 0, none⟩)
set_option maxHeartbeats 1600000 in
theorem start (b seed : Nat) (w : World) (h : Hs w b seed) : Calls Tryz.prog 154 #[hp b] w fun e w' => e = .returned (.int .u64 (keyN seed)) ∧ Hs w' b seed ∧ w.grownBy w' (some b) := by
  obtain ⟨d, q, key, hr, hd⟩ := h
  have hmf : ∀ (fn : Go.Fn) (first cap : Array Value) (w : World), (Instr.makeFunc fn first cap).run Tryz.prog w = .ok (.func fn first cap) w := fun _ _ _ _ => rfl
  have hlt := hr.lt
  have hr' : Row (w.alloc (.cells #[hp b] 28)) b seed d 0 q key := hr.below ((Below.refl _ _).alloc (Nat.le_refl _) _)
  have hpl : (w.alloc (.cells #[hp b] 28)).cell? ⟨w.heap.size, 0, none⟩ = some (hp b) := by simp [go_sem]
  have hal : w.grownBy (w.alloc (.cells #[hp b] 28)) (some b) := World.grownBy_alloc _ _ _
  rcases hd with rfl | ⟨rfl, rfl⟩
  · have hr2 := first_row hr'
    have hg2 := first_grown (w.alloc (.cells #[hp b] 28)) b (.int .i32 1) (.int .u64 (keyN seed)) (.int .u32 1) (.int .i32 0)
    have hp2 := hg2.cell hpl (by simp; omega)
    have c4 := hr2.c4
    have hres : Hs _ b seed := ⟨1, q, keyN seed, hr2, .inr ⟨rfl, rfl⟩⟩
    have HG := Lib.hid (hal.trans hg2)
    have HR := Lib.hid hres
    clear hr2 hg2 hres
    go_enter Tryz.func154, Tryz.ntmps154
    go_wp2_with (go_at_call 202; refine (do_first b seed q key ⟨w.heap.size, 0, none⟩ (by simp; omega) _ hpl hr').mono ?_; rintro e w' ⟨rfl, hw⟩; rw [← hw] at hp2 c4 HG HR; clear hw)
    go_ret
    exact ⟨rfl, HR.out, HG.out⟩
  · have c4 := hr'.c4
    go_enter Tryz.func154, Tryz.ntmps154
    go_wp2_with (go_at_call 202; refine (do_done b seed q _ _ _ hr').mono ?_; rintro e w' ⟨rfl, rfl⟩)
    go_ret
    exact ⟨rfl, ⟨1, q, _, hr', .inr ⟨rfl, rfl⟩⟩, hal⟩

theorem box3g {w w1 : World} {a0 a1 a2 : Value} {t : TypeId} {b : Nat} (h : (w.alloc (.cells #[a0, a1, a2] t)).grownBy w1 (some b)) (hb : b < w.heap.size) :
    w1.cell? ⟨w.heap.size, 0, none⟩ = some a0 ∧ w1.cell? ⟨w.heap.size, 1, none⟩ = some a1 ∧ w1.cell? ⟨w.heap.size, 2, none⟩ = some a2 := by
  refine ⟨h.cell ?_ ?_, h.cell ?_ ?_, h.cell ?_ ?_⟩ <;> first | (simp; omega) | simp [go_sem]

set_option maxHeartbeats 1600000 in
theorem hof (b seed : Nat) (k n : Int) (s : ByteArray) (w : World) (h : Hs w b seed) (hk : 0 ≤ k) (hk' : k ≤ 255) (h47 : 17 + s.size ≤ 140737488355328) :
    Calls Tryz.prog 100 #[hp b, vv k n s] w fun e w' => e = .returned (.int .u64 (hashN seed k n s)) ∧ Hs w' b seed ∧ w.grownBy w' (some b) := by
  have hlt := h.lt
  go_enter Tryz.func100, Tryz.ntmps100
  go_wp2_with fail
  refine (start b seed _ (h.alloc _)).mono ?_
  rintro e w1 ⟨rfl, h1, g1⟩
  obtain ⟨c0, c1, c2⟩ := box3g g1 hlt
  have hg1 : w.grownBy w1 (some b) := World.grownBy.trans (World.grownBy_alloc _ _ _) g1
  clear g1
  go_wp2_with fail
  refine (pvalue _ [] k n s w1 (Bs.nil _) hk (by omega) (by simp; omega)).mono ?_
  rintro e w2 ⟨v2, rfl, hown, hb2⟩
  rw [List.nil_append] at hown
  have hres : Hs w2 b seed ∧ w.grownBy w2 (some b) := ⟨h1.below hb2, grownBy_then hg1 hb2⟩
  have HB := Lib.hid hown.bs
  have HR := Lib.hid hres
  obtain ⟨A, c, rfl, hc⟩ := hown.bs.form
  have hlen : (valB k n s).length ≤ 140737488355328 := by have := valB_le k n s; omega
  obtain ⟨l, hl⟩ : ∃ l, l = valB k n s := ⟨_, rfl⟩
  rw [← hl] at HB hc hlen ⊢
  have HL := Lib.hid hl
  clear hl hown hb2 hg1 h1 c0 c1 c2 hres h
  go_wp2_with fail
  go_loopw [5, 15] (fun nv i wr => ∃ j : Nat, j ≤ l.length ∧ i = .int .i64 j ∧ nv = .int .u64 (bytesN (keyN seed) (l.take j)) ∧ w2 = wr) (fun _ i _ => l.length - (intOf i).toNat)
  case atStart => exact ⟨0, Nat.zero_le _, rfl, by simp [bytesN], rfl⟩
  case round =>
    obtain ⟨j, hj, rfl, rfl, rfl⟩ := hrel
    obtain ⟨m, hm⟩ : ∃ m, m = bytesN (keyN seed) (l.take j) := ⟨_, rfl⟩
    have hmn : m < 18446744073709551616 := by rw [hm]; exact bytesN_lt _ (keyN_lt _)
    rw [← hm]
    have HM := Lib.hid hm
    clear hm
    by_cases h1 : j < l.length
    · obtain ⟨b', o', c', e', hx⟩ := HB.out.at h1
      injection e' with eA _ _
      subst eA
      obtain ⟨x, hxl⟩ : ∃ x, x = l[j] := ⟨_, rfl⟩
      rw [← hxl] at hx
      have HX := Lib.hid hxl
      clear hxl
      go_wp2_with fail
      go_roundw
      case rel => exact ⟨j + 1, by omega, by go_num, by rw [bytesN_take h1, ← HM.out, ← HX.out, byteStep_run hmn], trivial⟩
      case measure => simp [intOf]; omega
    · obtain rfl : j = l.length := by omega
      rw [List.take_length] at HM
      go_wp2_with fail
      refine (mix m hmn _).mono ?_
      rintro e w' ⟨rfl, rfl⟩
      go_wp2_with fail
      go_ret
      exact ⟨ret_int (by rw [HM.out, HL.out]; rfl), HR.out⟩

set_option maxHeartbeats 1600000 in
theorem ref_of (seed : Nat) (k n : Int) (s : ByteArray) (w : World) (hk : 0 ≤ k) (hk' : k ≤ 255) (h47 : 17 + s.size ≤ 140737488355328) :
    Calls Tryz.prog 103 #[.int .u64 seed, vv k n s] w fun e w' => e = .returned (.int .u64 (hashN seed k n s)) ∧ Below w.heap.size w w' := by
  go_enter Tryz.func103, Tryz.ntmps103
  go_wp2_with fail
  refine (ref_key seed _).mono ?_
  rintro e w1 ⟨rfl, rfl⟩
  go_wp2_with fail
  refine (ref_value k n s _ hk (by omega) h47).mono ?_
  rintro e w2 ⟨v2, rfl, hown, hb2⟩
  have HR := Lib.hid (below_box hb2)
  have HB := Lib.hid hown.bs
  obtain ⟨A, c, rfl, hc⟩ := hown.bs.form
  have hlen : (valB k n s).length ≤ 140737488355328 := by have := valB_le k n s; omega
  obtain ⟨l, hl⟩ : ∃ l, l = valB k n s := ⟨_, rfl⟩
  rw [← hl] at HB hc hlen ⊢
  have HL := Lib.hid hl
  clear hl hown hb2
  go_wp2_with fail
  go_loopw [5, 7] (fun nv i wr => ∃ j : Nat, j ≤ l.length ∧ i = .int .i64 j ∧ nv = .int .u64 (bytesN (keyN seed) (l.take j)) ∧ w2 = wr) (fun _ i _ => l.length - (intOf i).toNat)
  case atStart => exact ⟨0, Nat.zero_le _, rfl, by simp [bytesN], rfl⟩
  case round =>
    obtain ⟨j, hj, rfl, rfl, rfl⟩ := hrel
    obtain ⟨m, hm⟩ : ∃ m, m = bytesN (keyN seed) (l.take j) := ⟨_, rfl⟩
    have hmn : m < 18446744073709551616 := by rw [hm]; exact bytesN_lt _ (keyN_lt _)
    rw [← hm]
    have HM := Lib.hid hm
    clear hm
    by_cases h1 : j < l.length
    · obtain ⟨b', o', c', e', hx⟩ := HB.out.at h1
      injection e' with eA _ _
      subst eA
      obtain ⟨x, hxl⟩ : ∃ x, x = l[j] := ⟨_, rfl⟩
      rw [← hxl] at hx
      have HX := Lib.hid hxl
      clear hxl
      go_wp2_with fail
      go_roundw
      case rel => exact ⟨j + 1, by omega, by go_num, by rw [bytesN_take h1, ← HM.out, ← HX.out, byteStep_run hmn], trivial⟩
      case measure => simp [intOf]; omega
    · obtain rfl : j = l.length := by omega
      rw [List.take_length] at HM
      go_wp2_with fail
      refine (ref_mix m hmn _).mono ?_
      rintro e w' ⟨rfl, rfl⟩
      go_wp2_with fail
      go_ret
      exact ⟨ret_int (by rw [HM.out, HL.out]; rfl), HR.out⟩

end Go.Proofs.YthcpjehkjhpjfaaGreat

namespace Go.Proofs.YthcpjehkjhpjfaaGreat
open Go.RowKit

def Rd (w : World) (v : Value) (n : Nat) (xs : List Value) : Prop :=
  (v = .slice none 0 0 ∧ n = 0 ∧ xs = []) ∨ ∃ (b o c : Nat), v = .slice (some ⟨b, o, none⟩) n c ∧ n ≤ c ∧ ∀ j u, xs[j]? = some u → w.cell? ⟨b, o + j, none⟩ = some u

structure Kp (F : Nat → Prop) (w w' : World) : Prop where
  os : w'.os = w.os
  tape : w'.tape = w.tape
  output : w'.output = w.output
  size : w.heap.size ≤ w'.heap.size
  block : ∀ k, k < w.heap.size → ¬ F k → w'.heap[k]? = w.heap[k]?

theorem add_none (b o j : Nat) : (⟨b, o, none⟩ : Addr).add j = ⟨b, o + j, none⟩ := by unfold Addr.add; split <;> simp_all

section
variable {F G : Nat → Prop} {w w' w'' : World} {v : Value} {n : Nat} {xs : List Value}
theorem Kp.refl (F : Nat → Prop) (w : World) : Kp F w w := ⟨rfl, rfl, rfl, Nat.le_refl _, fun _ _ _ => rfl⟩
theorem Kp.trans (h : Kp F w w') (k : Kp G w' w'') (hG : ∀ b, G b → F b ∨ w.heap.size ≤ b) : Kp F w w'' :=
  ⟨k.os.trans h.os, k.tape.trans h.tape, k.output.trans h.output, Nat.le_trans h.size k.size, fun b hb hF =>
    (k.block b (Nat.lt_of_lt_of_le hb h.size) (fun g => by rcases hG b g with g | g <;> first | exact hF g | omega)).trans (h.block b hb hF)⟩
theorem Kp.mono (h : Kp F w w') (hF : ∀ b, F b → b < w.heap.size → G b) : Kp G w w' := ⟨h.os, h.tape, h.output, h.size, fun b hb hg => h.block b hb fun f => hg (hF b f hb)⟩
theorem Kp.of_below (h : Below w.heap.size w w') (F : Nat → Prop) : Kp F w w' := ⟨h.os, h.tape, h.output, h.size, fun b hb _ => h.block b hb⟩
theorem Kp.of_grown {row : Option Nat} (h : w.grownBy w' row) (hF : ∀ k, row = some k → F k ∨ w.heap.size ≤ k) : Kp F w w' :=
  ⟨h.os, h.tape, h.output, h.size, fun b hb hf => h.block b hb fun e => by rcases hF b e.symm with g | g <;> first | exact hf g | omega⟩
theorem Kp.below (h : Kp F w w') (hF : ∀ b, F b → w.heap.size ≤ b) : Below w.heap.size w w' := ⟨h.os, h.tape, h.output, h.size, fun b hb => h.block b hb fun f => by have := hF b f; omega⟩
theorem Kp.alloc (h : Kp F w w') (o : Obj) : Kp F w (w'.alloc o) := h.trans (Kp.of_below ((Below.refl _ _).alloc (Nat.le_refl _) o) (fun _ => False)) (fun _ h => h.elim)
theorem Kp.drew (h : Kp F w w') : Kp F w w'.drew := ⟨h.os, h.tape, h.output, h.size, h.block⟩
theorem Kp.setCell (h : Kp F w w') {b o : Nat} (hb : F b ∨ w.heap.size ≤ b) (u : Value) : Kp F w (w'.setCell ⟨b, o, none⟩ u) :=
  h.trans (G := fun k => k = b) ⟨rfl, rfl, rfl, by simp [World.setCell], fun k _ hk => Below.heap_setCell w' ⟨b, o, none⟩ u k (fun e => hk e)⟩ (fun k e => e ▸ hb)
theorem Kp.one (w : World) (b o : Nat) (u : Value) : Kp (fun k => k = b) w (w.setCell ⟨b, o, none⟩ u) := (Kp.refl (fun k => k = b) w).setCell (.inl rfl) u
theorem Kp.at (h : Kp F w w') {b : Nat} {o : Obj} (hb : w.heap[b]? = some o) (hF : ¬ F b) : w'.heap[b]? = some o := (h.block b (Array.getElem?_eq_some_iff.1 hb).1 hF).trans hb
theorem Kp.cell (h : Kp F w w') {b o : Nat} {u : Value} (hb : w.cell? ⟨b, o, none⟩ = some u) (hF : ¬ F b) : w'.cell? ⟨b, o, none⟩ = some u :=
  (World.cell?_of_block (h.block b (World.block_lt_of_cell? w ⟨b, o, none⟩ hb) hF)).trans hb
theorem Kp.own (h : Kp F w w') {base e size : Nat} (ho : w.ownsRow base e size v n xs) (hF : ∀ k, v.ownBlock = some k → ¬ F k) : w'.ownsRow base e size v n xs := by
  refine ⟨ho.1, ?_⟩
  rcases ho.2 with hn | ⟨g, cap, cur, rfl, hb, hg, rest⟩
  · exact .inl hn
  · exact .inr ⟨g, cap, cur, rfl, hb, h.at hg (hF g rfl), rest⟩
theorem Kp.rd (h : Kp F w w') (hr : Rd w v n xs) (hF : ∀ k, v.ownBlock = some k → ¬ F k) : Rd w' v n xs := by
  rcases hr with hn | ⟨b, o, c, rfl, hc, hx⟩
  · exact .inl hn
  · exact .inr ⟨b, o, c, rfl, hc, fun j u hu => h.cell (hx j u hu) (hF b rfl)⟩

theorem Rd.below (h : Rd w v n xs) (hb : Below w.heap.size w w') : Rd w' v n xs := (Kp.of_below hb (fun _ => False)).rd h (fun _ _ => id)
theorem Rd.alloc (h : Rd w v n xs) (o : Obj) : Rd (w.alloc o) v n xs := h.below ((Below.refl _ _).alloc (Nat.le_refl _) o)
theorem Rd.drew (h : Rd w v n xs) : Rd w.drew v n xs := h
theorem Rd.nil (w : World) : Rd w (.slice none 0 0) 0 [] := .inl ⟨rfl, rfl, rfl⟩
theorem Rd.form (h : Rd w v n xs) : ∃ A c, v = .slice A n c ∧ n ≤ c := by
  rcases h with ⟨rfl, rfl, _⟩ | ⟨b, o, c, rfl, hc, _⟩
  · exact ⟨none, 0, rfl, Nat.le_refl _⟩
  · exact ⟨_, c, rfl, hc⟩
theorem Rd.at (h : Rd w v n xs) {j : Nat} {u : Value} (hj : xs[j]? = some u) : ∃ b o c, v = .slice (some ⟨b, o, none⟩) n c ∧ n ≤ c ∧ w.cell? ⟨b, o + j, none⟩ = some u := by
  rcases h with ⟨_, _, rfl⟩ | ⟨b, o, c, rfl, hc, hx⟩
  · simp at hj
  · exact ⟨b, o, c, rfl, hc, hx j u hj⟩
theorem Rd.of_own {base e size : Nat} (h : w.ownsRow base e size v n xs) : Rd w v n xs := by
  rcases h.2 with ⟨rfl, hn⟩ | ⟨g, cap, cur, rfl, _, hg, hc, _⟩
  · have hx : xs = [] := List.eq_nil_of_length_eq_zero (by rw [h.1, hn]; simp)
    subst hn hx
    exact .inl ⟨rfl, rfl, rfl⟩
  · refine .inr ⟨g, 0, cap, rfl, hc, fun j u hu => ?_⟩
    rw [Nat.zero_add]
    have := h.cells (g := g) rfl j u hu
    rwa [add_none, Nat.zero_add] at this
theorem Rd.one (w : World) (x : Value) (t : TypeId) : Rd (w.alloc (.cells #[x] t)) (.slice (some ⟨w.heap.size, 0, none⟩) 1 1) 1 [x] := by
  refine .inr ⟨_, 0, 1, rfl, Nat.le_refl _, fun j u hu => ?_⟩
  match j, hu with
  | 0, hu => simp at hu; subst hu; simp [go_sem]
theorem Rd.one' (w : World) (x : Value) (t : TypeId) (b : Nat) (hb : b = w.heap.size) : Rd (w.alloc (.cells #[x] t)) (.slice (some ⟨b, 0, none⟩) 1 1) 1 [x] := hb ▸ Rd.one w x t
theorem Rd.two (w : World) (x y : Value) (t : TypeId) : Rd (w.alloc (.cells #[x, y] t)) (.slice (some ⟨w.heap.size, 0, none⟩) 2 2) 2 [x, y] := by
  refine .inr ⟨_, 0, 2, rfl, Nat.le_refl _, fun j u hu => ?_⟩
  match j, hu with
  | 0, hu => simp at hu; subst hu; simp [go_sem]
  | 1, hu => simp at hu; subst hu; simp [go_sem]
theorem own_less {base base' e size : Nat} (h : w.ownsRow base e size v n xs) (hb : base' ≤ base) : w.ownsRow base' e size v n xs := by
  refine ⟨h.1, ?_⟩
  rcases h.2 with hn | ⟨g, cap, cur, hv, hg, rest⟩
  · exact .inl hn
  · exact .inr ⟨g, cap, cur, hv, Nat.le_trans hb hg, rest⟩
theorem own_blk {base e size : Nat} (h : w.ownsRow base e size v n xs) : ∀ k, v.ownBlock = some k → base ≤ k ∧ k < w.heap.size := h.lt
theorem own_type {base e size : Nat} (h : w.ownsRow base e size v n xs) : ∀ k, v.ownBlock = some k → ∃ cur, w.heap[k]? = some (.cells cur e (0, 0)) := by
  intro k hk
  rcases h.2 with ⟨rfl, _⟩ | ⟨g, cap, cur, rfl, _, hg, _⟩
  · cases hk
  · cases hk; exact ⟨cur, hg⟩
theorem own_ne {base e size : Nat} (h : w.ownsRow base e size v n xs) {b t : Nat} {cur : Array Value} {z : Nat × Nat} (hb : w.heap[b]? = some (.cells cur t z)) (ht : e ≠ t) : ∀ k, v.ownBlock = some k → k ≠ b := by
  rintro k hk rfl
  obtain ⟨cur', h'⟩ := own_type h k hk
  rw [hb] at h'
  simp only [Option.some.injEq, Obj.cells.injEq] at h'
  exact ht h'.2.1.symm
theorem ne_types {b b' t t' : Nat} {c c' : Array Value} {z z' : Nat × Nat} (h : w.heap[b]? = some (.cells c t z)) (h' : w.heap[b']? = some (.cells c' t' z')) (ht : t ≠ t') : b ≠ b' := by
  rintro rfl
  rw [h] at h'
  simp only [Option.some.injEq, Obj.cells.injEq] at h'
  exact ht h'.2.1
theorem own_at {base e size : Nat} (h : w.ownsRow base e size v n xs) {j : Nat} {u : Value} (hj : xs[j]? = some u) : ∃ g c, v = .slice (some ⟨g, 0, none⟩) n c ∧ n ≤ c ∧ w.cell? ⟨g, j, none⟩ = some u ∧ w.frozen? ⟨g, j, none⟩ = false := by
  rcases h.2 with ⟨rfl, hn⟩ | ⟨g, cap, cur, rfl, _, hg, hc, _⟩
  · have hx : xs = [] := List.eq_nil_of_length_eq_zero (by rw [h.1, hn]; simp)
    subst hx
    simp at hj
  · refine ⟨g, cap, rfl, hc, ?_, h.frozenAt j⟩
    have := h.cells (g := g) rfl j u hj
    rwa [add_none, Nat.zero_add] at this
theorem own_take {base e size : Nat} {g c m : Nat} (h : w.ownsRow base e size (.slice (some ⟨g, 0, none⟩) n c) n xs) (hm : m ≤ n) : w.ownsRow base e size (.slice (some ⟨g, 0, none⟩) m c) m (xs.take (m * size)) := by
  have hle : m * size ≤ n * size := Nat.mul_le_mul_right _ hm
  refine ⟨by rw [List.length_take, h.1]; omega, ?_⟩
  rcases h.2 with ⟨h', _⟩ | ⟨g', cap', cur, h', hb, hg, hnc, hcm, hcs, htake⟩
  · cases h'
  · simp only [Value.slice.injEq, Option.some.injEq, Addr.mk.injEq, and_true, true_and] at h'
    obtain ⟨rfl, rfl⟩ := h'
    exact .inr ⟨g, c, cur, rfl, hb, hg, by omega, hcm, hcs, by rw [← htake, List.take_take, Nat.min_eq_left hle]⟩
end

section
variable {P : Program} {w : World}
theorem run_append_rd (B : Nat) (t ty e : TypeId) (i : TypeInfo) (z : Value) (size bytes : Nat) (ht : P.underlying t = some (.slice e)) (hi : P.info? e = some i) (hz : i.zero = some z) (hsize : i.size = size) (hby : i.bytes = bytes)
    (hzs : z.cells.size = size) (hsz : 0 < size) (v : Value) (n : Nat) (xs : List Value) (hown : w.ownsRow B e size v n xs) (y : Value) (m : Nat) (ys : List Value) (hy : Rd w y m ys) (hl : ys.length = m * size) (h1 : ∀ u ∈ ys, u.oneCell' = true)
    (h63 : n + m ≤ maxLen) (hbytes : (n + m) * bytes ≤ 140737488355328) (hB : B ≤ w.heap.size) :
    ∃ v' w', (Builtin.append_ #[t, t] ty #[v, y]).run P w = .ok v' w' ∧ w'.ownsRow B e size v' (n + m) (xs ++ ys) ∧ w.grownBy w' v.ownBlock ∧ (v'.ownBlock = v.ownBlock ∨ v'.ownBlock = some w.heap.size) := by
  rcases hy with ⟨rfl, rfl, rfl⟩ | ⟨b, o, c, rfl, _, hc⟩
  · exact ⟨v, w, run_append_owned_none w B t ty e i size ht hi v _ _ hown, by simpa using hown, ⟨rfl, rfl, rfl, Nat.le_refl _, fun _ _ _ => rfl⟩, .inl rfl⟩
  · obtain ⟨v', w', hr, ho, hg, _, hat⟩ := run_append_own_at (P := P) w B t ty e i z size bytes ht hi hz hsize hby hzs hsz v n xs hown ⟨b, o, none⟩ m c ys hl (fun j u hu => by rw [add_none]; exact hc j u hu) h1 h63 hbytes hB
    exact ⟨v', w', hr, ho, hg, hat⟩

theorem wp_append_rd {o : Oper} {a : Act} {K : Act → World → Prop} {Q : Exit → Act → World → Prop} (s x : Operand) (t : TypeId)
    (ho : o.op = .call { callee := .builtin .append, args := #[s, x], argTypes := #[t, t] })
    (B : Nat) (e : TypeId) (i : TypeInfo) (z : Value) (size bytes : Nat) (ht : P.underlying t = some (.slice e)) (hi : P.info? e = some i) (hz : i.zero = some z) (hsize : i.size = size) (hby : i.bytes = bytes) (hzs : z.cells.size = size) (hsz : 0 < size)
    (v : Value) (n : Nat) (xs : List Value) (hs : a.eval s = v) (hown : w.ownsRow B e size v n xs) (y : Value) (m : Nat) (ys : List Value) (hx : a.eval x = y) (hy : Rd w y m ys) (hl : ys.length = m * size) (h1 : ∀ u ∈ ys, u.oneCell' = true)
    (h63 : n + m ≤ maxLen) (hbytes : (n + m) * bytes ≤ 140737488355328) (hB : B ≤ w.heap.size)
    (h : ∀ v' w', w'.ownsRow B e size v' (n + m) (xs ++ ys) → w.grownBy w' v.ownBlock → (v'.ownBlock = v.ownBlock ∨ v'.ownBlock = some w.heap.size) → K (a.put o.dst v') w') : o.wp P a w K Q := by
  obtain ⟨v', w', hrun, h2, h3, h4⟩ := run_append_rd (P := P) (w := w) B t o.type e i z size bytes ht hi hz hsize hby hzs hsz v n xs hown y m ys hy hl h1 h63 hbytes hB
  unfold Oper.wp execOp
  simp only [ho, resolve, invoke, builtin, Sem.run_bind, Sem.run_pure, Result.andThen_ok, List.map_toArray, List.map_cons, List.map_nil, hs, hx, hrun]
  exact h v' w' h2 h3 h4
theorem wpList_append_rd {ops : Array Oper} {rest : List Oper} {o : Oper} {a : Act} {Q : Exit → Act → World → Prop} (hgd : o.guard = none) (s x : Operand) (t : TypeId)
    (ho : o.op = .call { callee := .builtin .append, args := #[s, x], argTypes := #[t, t] })
    (B : Nat) (e : TypeId) (i : TypeInfo) (z : Value) (size bytes : Nat) (ht : P.underlying t = some (.slice e)) (hi : P.info? e = some i) (hz : i.zero = some z) (hsize : i.size = size) (hby : i.bytes = bytes) (hzs : z.cells.size = size) (hsz : 0 < size)
    (v : Value) (n : Nat) (xs : List Value) (hs : a.eval s = v) (hown : w.ownsRow B e size v n xs) (y : Value) (m : Nat) (ys : List Value) (hx : a.eval x = y) (hy : Rd w y m ys) (hl : ys.length = m * size) (h1 : ∀ u ∈ ys, u.oneCell' = true)
    (h63 : n + m ≤ maxLen) (hbytes : (n + m) * bytes ≤ 140737488355328) (hB : B ≤ w.heap.size)
    (h : ∀ v' w', w'.ownsRow B e size v' (n + m) (xs ++ ys) → w.grownBy w' v.ownBlock → (v'.ownBlock = v.ownBlock ∨ v'.ownBlock = some w.heap.size) → wpList P ops Q rest (a.put o.dst v') w') : wpList P ops Q (o :: rest) a w :=
  wpList_plain hgd fun _ hK => wp_append_rd s x t ho B e i z size bytes ht hi hz hsize hby hzs hsz v n xs hs hown y m ys hx hy hl h1 h63 hbytes hB fun v' w' h2 h3 h4 => hK _ _ (h v' w' h2 h3 h4)

theorem step_append_rd {ops : Array Oper} {o : Oper} {a : Act} {K : Act → World → Prop} {Q : Exit → Act → World → Prop} {E : Prop} (hgd : o.guard = none) (s x : Operand) (t : TypeId)
    (ho : o.op = .call { callee := .builtin .append, args := #[s, x], argTypes := #[t, t] })
    (B : Nat) (e : TypeId) (i : TypeInfo) (z : Value) (size bytes : Nat) (ht : P.underlying t = some (.slice e)) (hi : P.info? e = some i) (hz : i.zero = some z) (hsize : i.size = size) (hby : i.bytes = bytes) (hzs : z.cells.size = size) (hsz : 0 < size)
    (v : Value) (n : Nat) (xs : List Value) (hs : a.eval s = v) (hown : w.ownsRow B e size v n xs) (y : Value) (m : Nat) (ys : List Value) (hx : a.eval x = y) (hy : Rd w y m ys) (hl : ys.length = m * size) (h1 : ∀ u ∈ ys, u.oneCell' = true)
    (h63 : n + m ≤ maxLen) (hbytes : (n + m) * bytes ≤ 140737488355328) (hB : B ≤ w.heap.size)
    (h : ∀ v' w', w'.ownsRow B e size v' (n + m) (xs ++ ys) → w.grownBy w' v.ownBlock → (v'.ownBlock = v.ownBlock ∨ v'.ownBlock = some w.heap.size) → K (a.put o.dst v') w') :
    if Region.wanted o (yielded ops a.tmps) = true then Oper.wp P o a w K Q else E := by
  have hw : Region.wanted o (yielded ops a.tmps) = true := by simp [Region.wanted, hgd]
  rw [if_pos hw]
  exact wp_append_rd s x t ho B e i z size bytes ht hi hz hsize hby hzs hsz v n xs hs hown y m ys hx hy hl h1 h63 hbytes hB h
theorem step_call {ops : Array Oper} {o : Oper} {a : Act} {K : Act → World → Prop} {Q : Exit → Act → World → Prop} {E : Prop} (hgd : o.guard = none) (f : FuncId) (args : Array Value) (hrun : (execOp a.eval o).run P w = .ok (.enter f args) w)
    {R : Value → World → Prop} (hc : Calls P f args w fun e w' => ∃ v, e = .returned v ∧ R v w') (h : ∀ v w', R v w' → K (a.put o.dst v) w') : if Region.wanted o (yielded ops a.tmps) = true then Oper.wp P o a w K Q else E := by
  have hw : Region.wanted o (yielded ops a.tmps) = true := by simp [Region.wanted, hgd]
  rw [if_pos hw]
  unfold Oper.wp
  rw [hrun, Oper.upon_enter]
  refine hc.mono fun e w' hh => ?_
  obtain ⟨v, rfl, hR⟩ := hh
  exact h v w' hR
end

end Go.Proofs.YthcpjehkjhpjfaaGreat

namespace Go.Proofs.YthcpjehkjhpjfaaGreat
open Go.RowKit

theorem own_set1 {w : World} {base t size g n cp j : Nat} {xs : List Value} (h : w.ownsRow base t size (.slice (some ⟨g, 0, none⟩) n cp) n xs) (_hj : j < n * size) (u : Value) : (w.setCell ⟨g, j, none⟩ u).ownsRow base t size (.slice (some ⟨g, 0, none⟩) n cp) n (xs.set j u) := by
  obtain ⟨h1, h2⟩ := h
  refine ⟨by rw [List.length_set]; exact h1, ?_⟩
  rcases h2 with ⟨e, _⟩ | ⟨g', cap, cur, e, hb, hg, hc, hm, hs, ht⟩
  · cases e
  · simp only [Value.slice.injEq, Option.some.injEq, Addr.mk.injEq, and_true, true_and] at e
    obtain ⟨rfl, rfl⟩ := e
    refine .inr ⟨g, cp, _, rfl, hb, heap_setCell_same w g j _ _ u hg, hc, hm, by rw [Array.size_setIfInBounds]; exact hs, ?_⟩
    rw [Array.toList_setIfInBounds, List.take_set, ht]
theorem own_sets {base t size g n cp : Nat} : ∀ (us : List Value) (o : Nat) (w : World) (xs : List Value), w.ownsRow base t size (.slice (some ⟨g, 0, none⟩) n cp) n xs → o + us.length ≤ n * size → ∃ ys, (w.setCells g o us).ownsRow base t size (.slice (some ⟨g, 0, none⟩) n cp) n ys ∧ ys.length = xs.length ∧ ∀ j, ys[j]? = if o ≤ j ∧ j < o + us.length then us[j - o]? else xs[j]?
  | [], o, w, xs, h, _ => ⟨xs, h, rfl, fun j => by rw [if_neg (fun h => by simp only [List.length_nil] at h; omega)]⟩
  | u :: us, o, w, xs, h, hl => by
    simp only [List.length_cons] at hl
    have h1 := own_set1 h (show o < n * size by omega) u
    obtain ⟨ys, h2, h3, h4⟩ := own_sets us (o + 1) _ _ h1 (by omega)
    refine ⟨ys, h2, by rw [h3, List.length_set], fun j => ?_⟩
    have hxl : xs.length = n * size := h.1
    rw [h4 j]
    simp only [List.length_cons]
    by_cases e : j = o
    · subst e
      rw [if_neg (by omega), if_pos (by omega), List.getElem?_set_self (by omega), Nat.sub_self]
      rfl
    · by_cases e2 : o + 1 ≤ j ∧ j < o + 1 + us.length
      · rw [if_pos e2, if_pos (by omega), show j - o = (j - (o + 1)) + 1 by omega]
        rfl
      · rw [if_neg e2, if_neg (by omega), List.getElem?_set_ne (Ne.symm e)]
theorem own_first {w : World} {base t size g n m cp : Nat} {xs : List Value} (h : w.ownsRow base t size (.slice (some ⟨g, 0, none⟩) n cp) n xs) (hm : m ≤ n) : w.ownsRow base t size (.slice (some ⟨g, 0, none⟩) m cp) m (xs.take (m * size)) := by
  obtain ⟨h1, h2⟩ := h
  have hms : m * size ≤ n * size := Nat.mul_le_mul_right _ hm
  refine ⟨by rw [List.length_take]; omega, ?_⟩
  rcases h2 with ⟨e, _⟩ | ⟨g', cap, cur, e, hb, hg, hc, hmx, hs, ht⟩
  · cases e
  · simp only [Value.slice.injEq, Option.some.injEq, Addr.mk.injEq, and_true, true_and] at e
    obtain ⟨rfl, rfl⟩ := e
    exact .inr ⟨g, cp, cur, rfl, hb, hg, by omega, hmx, hs, by rw [← ht, List.take_take, Nat.min_eq_left hms]⟩
theorem own_more {w : World} {base t size g n m cp : Nat} {xs : List Value} (h : w.ownsRow base t size (.slice (some ⟨g, 0, none⟩) n cp) n xs) (hm : n + m ≤ cp) : ∃ ys, w.ownsRow base t size (.slice (some ⟨g, 0, none⟩) (n + m) cp) (n + m) ys ∧ ys.take (n * size) = xs := by
  obtain ⟨h1, h2⟩ := h
  have hms : n * size ≤ (n + m) * size := Nat.mul_le_mul_right _ (by omega)
  rcases h2 with ⟨e, _⟩ | ⟨g', cap, cur, e, hb, hg, hc, hmx, hs, ht⟩
  · cases e
  · simp only [Value.slice.injEq, Option.some.injEq, Addr.mk.injEq, and_true, true_and] at e
    obtain ⟨rfl, rfl⟩ := e
    have hcs : (n + m) * size ≤ cp * size := Nat.mul_le_mul_right _ hm
    exact ⟨cur.toList.take ((n + m) * size), ⟨by rw [List.length_take, Array.length_toList, hs, Nat.min_eq_left hcs], .inr ⟨g, cp, cur, rfl, hb, hg, hm, hmx, hs, rfl⟩⟩, by rw [List.take_take, Nat.min_eq_left hms, ht]⟩
theorem own_cap {w : World} {base t size g n cp : Nat} {xs : List Value} (h : w.ownsRow base t size (.slice (some ⟨g, 0, none⟩) n cp) n xs) : n ≤ cp ∧ cp ≤ 9223372036854775807 := by
  rcases h.2 with ⟨e, _⟩ | ⟨g', cap, cur, e, _, _, hc, hm, _⟩
  · cases e
  · simp only [Value.slice.injEq, Option.some.injEq, Addr.mk.injEq, and_true, true_and] at e
    rw [e.2]
    exact ⟨hc, by unfold maxLen at hm; omega⟩
theorem own_shape {w : World} {base t size g n cp : Nat} {xs : List Value} (h : w.ownsRow base t size (.slice (some ⟨g, 0, none⟩) n cp) n xs) : w.shape? g = some (t, cp * size) ∧ ∀ j, w.frozen? ⟨g, j, none⟩ = false := by
  have hf := h.frozenAt
  rcases h.2 with ⟨e, _⟩ | ⟨g', cap, cur, e, hb, hg, hc, hm, hs, ht⟩
  · cases e
  · simp only [Value.slice.injEq, Option.some.injEq, Addr.mk.injEq, and_true, true_and] at e
    obtain ⟨rfl, rfl⟩ := e
    exact ⟨by unfold World.shape?; rw [hg]; simp [hs], fun j => hf j⟩
theorem Kp.sets {w : World} {F : Nat → Prop} {g : Nat} (hg : F g ∨ w.heap.size ≤ g) : ∀ (us : List Value) (o : Nat) (w' : World), Kp F w w' → Kp F w (w'.setCells g o us)
  | [], _, _, h => h
  | u :: us, o, _, h => Kp.sets hg us (o + 1) _ (h.setCell hg u)
theorem run_copy_cellsN {P : Program} (w : World) (dT sT ty elem : TypeId) (sz b o dLen dCap : Nat) (a : Addr) (sLen sCap : Nat) (cs : List Value)
    (hu : P.underlying dT = some (.slice elem)) (hs : (P.info? elem).map (·.size) = some sz) (hn : cs.length = Nat.min sLen dLen * sz)
    (hsrc : ∀ j v, cs[j]? = some v → w.cell? (a.add j) = some v) (hc : ∀ j, j < cs.length → (w.cell? ⟨b, o + j, none⟩).isSome = true) (hf : ∀ j, j < cs.length → w.frozen? ⟨b, o + j, none⟩ = false) (h1 : ∀ v ∈ cs, v.oneCell' = true) :
    (Builtin.copy_ #[dT, sT] ty #[.slice (some ⟨b, o, none⟩) dLen dCap, .slice (some a) sLen sCap]).run P w = .ok (goInt (Nat.min sLen dLen : Nat)) (w.setCells b o cs) := by
  have hl := run_firstCells_some (P := P) (w := w) sz (Nat.min sLen dLen) a sLen sCap cs hn hsrc
  have hst := run_storeCells_cells (P := P) b o cs 0 w (by simpa using hc) (by simpa using hf) h1
  cases hq : P.info? elem with
  | none => simp [hq] at hs
  | some i =>
    have hi : i.size = sz := by simpa [hq] using hs
    simp [Builtin.copy_, run_underlying hu, Builtin.lenOf, sizeOf, typeInfo, hq, hi, hl, hst]
theorem run_clear_cells {P : Program} (w : World) (t e ty : TypeId) (z : Value) (zs : List Value) (m : Nat) (hm : 0 < m) (ht : P.underlying t = some (.slice e)) (hv : ∀ w, (zeroValue e).run P w = .ok z w) (hz : (Builtin.zeroCells z.cells m).toList = zs) (h1 : ∀ u ∈ zs, u.oneCell' = true) (b o c : Nat)
    (hc : ∀ j, j < zs.length → (w.cell? ⟨b, o + j, none⟩).isSome = true) (hf : ∀ j, j < zs.length → w.frozen? ⟨b, o + j, none⟩ = false) :
    (Builtin.clear_ #[t] ty #[.slice (some ⟨b, o, none⟩) m c]).run P w = .ok (.tuple #[]) (w.setCells b o zs) := by
  have hst := run_storeCells_cells (P := P) b o zs 0 w (by simpa using hc) (by simpa using hf) (fun v hv' => h1 v hv')
  simp only [Nat.add_zero] at hst
  cases m with
  | zero => omega
  | succ m => simp [Builtin.clear_, run_underlying ht, hv, hz, hst]
theorem ins_eq (xs ys zs : List Value) (a : Nat) (ha : a ≤ xs.length)
    (h1 : ∀ j, j < a → zs[j]? = xs[j]?) (h2 : ∀ j, j < ys.length → zs[a + j]? = ys[j]?) (h3 : ∀ j, zs[a + ys.length + j]? = xs[a + j]?) : zs = xs.take a ++ ys ++ xs.drop a := by
  have l1 : (xs.take a).length = a := by rw [List.length_take, Nat.min_eq_left ha]
  apply List.ext_getElem?
  intro j
  by_cases c1 : j < a
  · rw [h1 j c1, List.append_assoc, List.getElem?_append_left (by rw [l1]; exact c1), List.getElem?_take_of_lt c1]
  · by_cases c2 : j < a + ys.length
    · have := h2 (j - a) (by omega)
      rw [show a + (j - a) = j by omega] at this
      rw [this, List.getElem?_append_left (by rw [List.length_append, l1]; exact c2), List.getElem?_append_right (by rw [l1]; omega), l1]
    · have := h3 (j - (a + ys.length))
      rw [show a + ys.length + (j - (a + ys.length)) = j by omega] at this
      rw [this, List.getElem?_append_right (by rw [List.length_append, l1]; omega), List.length_append, l1, List.getElem?_drop]

end Go.Proofs.YthcpjehkjhpjfaaGreat

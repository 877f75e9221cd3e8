/- Several texts in one. -/
import Derived.Test.YtdddhmipifkepaaGreatMq15
import Derived.Test.YtdddhmipifkepaaGreatMq14
import Derived.Test.YtdddhmipifkepaaGreatMq10
namespace Go.Proofs.YtdddhmipifkepaaGreat
set_option maxRecDepth 100000
open Go.RowKit

def byteStep (n : Nat) (c : UInt8) : Nat := (n ^^^ c.toNat) * 1099511628211 % 18446744073709551616
def bytesN : Nat → List UInt8 → Nat
  | key, [] => key
  | key, c :: l => bytesN (byteStep key c) l
def hashN (seed : Nat) (k n : Int) (s : ByteArray) : Nat := mixN (bytesN (keyN seed) (valB k n s))
theorem byteStep_lt (n : Nat) (c : UInt8) : byteStep n c < 18446744073709551616 := Nat.mod_lt _ (by decide)
theorem bytesN_lt : ∀ (l : List UInt8) {key : Nat}, key < 18446744073709551616 → bytesN key l < 18446744073709551616
  | [], _, h => h
  | c :: l, key, _ => by rw [bytesN]; exact bytesN_lt l (byteStep_lt key c)
theorem bytesN_snoc : ∀ (l : List UInt8) (key : Nat) (c : UInt8), bytesN key (l ++ [c]) = byteStep (bytesN key l) c
  | [], _, _ => rfl
  | d :: l, key, c => by rw [List.cons_append, bytesN, bytesN, bytesN_snoc l]
theorem bytesN_take {key : Nat} {l : List UInt8} {j : Nat} (hj : j < l.length) : bytesN key (l.take (j + 1)) = byteStep (bytesN key (l.take j)) l[j] := by
  rw [List.take_add_one, List.getElem?_eq_getElem hj, Option.toList_some, bytesN_snoc]
theorem byteStep_run {n : Nat} (hn : n < 18446744073709551616) (c : UInt8) : IntKind.u64.wrap (bits .xor .u64 (n : Int) (IntKind.u64.wrap (c.toNat : Int)) * 1099511628211) = ((byteStep n c : Nat) : Int) := by
  have : c.toNat < 256 := c.toNat_lt
  rw [show IntKind.u64.wrap (c.toNat : Int) = (c.toNat : Int) by rw [IntKind.wrap_u64]; omega, bits_xor_u64_nat n c.toNat hn (by omega), IntKind.wrap_u64]
  unfold byteStep
  omega

theorem valB_le (k n : Int) (s : ByteArray) : (valB k n s).length ≤ 17 + s.size := by
  unfold valB
  rw [List.length_append, Lib.leBytes_length]
  split
  · rw [Lib.leBytes_length]; omega
  · split
    · rw [Lib.leBytes_length]; omega
    · split
      · rw [txtB_length]; omega
      · simp; omega

def Hs (w : World) (b seed : Nat) : Prop := ∃ (d : Int) (q key : Nat), Row w b seed d 0 q key ∧ (d = 0 ∨ d = 1 ∧ key = keyN seed)
section
variable {w w' : World} {b seed : Nat}
theorem Hs.lt (h : Hs w b seed) : b < w.heap.size := by obtain ⟨_, _, _, h, _⟩ := h; exact h.lt
theorem Hs.below (h : Hs w b seed) (hb : Below w.heap.size w w') : Hs w' b seed := by obtain ⟨d, q, key, h, k⟩ := h; exact ⟨d, q, key, h.below hb, k⟩
theorem Hs.grown (h : Hs w b seed) {row : Option Nat} (hg : w.grownBy w' row) (hb : some b ≠ row) : Hs w' b seed := by obtain ⟨d, q, key, h, k⟩ := h; exact ⟨d, q, key, h.grown hg hb, k⟩
theorem Hs.alloc (h : Hs w b seed) (o : Obj) : Hs (w.alloc o) b seed := h.below ((Below.refl _ _).alloc (Nat.le_refl _) o)
end

theorem hnew (seed : Nat) (w : World) : Calls Tryz.prog 47 #[.int .u64 seed] w fun e w' => e = .returned (.pointer (some ⟨w.heap.size, 0, none⟩)) ∧ Hs w' w.heap.size seed ∧ Gw w w' := by
  go_enter Tryz.func47, Tryz.ntmps47
  go_wp2
  go_ret
  exact ⟨rfl, ⟨0, 0, 0, heap_alloc_new w _, .inl rfl⟩, (Gw.refl _).alloc _ _⟩

set_option maxRecDepth 100000 in
set_option maxHeartbeats 1600000 in
theorem do_first (b seed q key : Nat) (pl : Addr) (hpb : ¬ b = pl.block) (w : World) (hp : w.cell? pl = some (.pointer (some ⟨b, 0, none⟩))) (h : Row w b seed 0 0 q key) :
    Calls Tryz.prog 251 #[.pointer (some ⟨b, 1, none⟩), .func (.func 252) #[] #[.pointer (some pl)]] w fun e w' => e = .returned (.tuple #[]) ∧
      w' = ((((w.setCell ⟨b, 2, none⟩ (.int .i32 1)).drew.setCell ⟨b, 4, none⟩ (.int .u64 (keyN seed))).drew.setCell ⟨b, 1, none⟩ (.int .u32 1)).setCell ⟨b, 2, none⟩ (.int .i32 0)) := by
  have hl := run_call_load (P := Tryz.prog) Tryz.func291 (by kernel_rfl) (by kernel_rfl) (by kernel_rfl) .u32 (by kernel_rfl) h.c1
  have hnot : ∀ (x : Bool) (w : World), (Op.unary .not (.bool x)).run Tryz.prog w = .ok (.bool (!x)) w := fun _ _ => rfl
  go_enter Tryz.func251, Tryz.ntmps251
  go_wp2_with (first | (go_at_call 277; refine (slow b seed q key pl hpb w hp h).mono ?_; rintro e w' ⟨rfl, rfl⟩) | (go_at_call 276; go_in))
  go_end0
  exact ⟨rfl, rfl⟩
theorem do_done (b seed q key : Nat) (fv : Value) (w : World) (h : Row w b seed 1 0 q key) :
    Calls Tryz.prog 251 #[.pointer (some ⟨b, 1, none⟩), fv] w fun e w' => e = .returned (.tuple #[]) ∧ w' = w := by
  have hl := run_call_load (P := Tryz.prog) Tryz.func291 (by kernel_rfl) (by kernel_rfl) (by kernel_rfl) .u32 (by kernel_rfl) h.c1
  have hnot : ∀ (x : Bool) (w : World), (Op.unary .not (.bool x)).run Tryz.prog w = .ok (.bool (!x)) w := fun _ _ => rfl
  go_enter Tryz.func251, Tryz.ntmps251
  go_wp2
  go_end0
  exact ⟨rfl, rfl⟩

theorem first_row {w : World} {b seed q key : Nat} (h : Row w b seed 0 0 q key) : Row ((((w.setCell ⟨b, 2, none⟩ (.int .i32 1)).drew.setCell ⟨b, 4, none⟩ (.int .u64 (keyN seed))).drew.setCell ⟨b, 1, none⟩ (.int .u32 1)).setCell ⟨b, 2, none⟩ (.int .i32 0)) b seed 1 0 q (keyN seed) :=
  ((((h.set2 1).drew.set4 (keyN seed)).drew.set1 1).set2 0)
theorem first_grown (w : World) (b : Nat) (x y z u : Value) : w.grownBy ((((w.setCell ⟨b, 2, none⟩ x).drew.setCell ⟨b, 4, none⟩ y).drew.setCell ⟨b, 1, none⟩ z).setCell ⟨b, 2, none⟩ u) (some b) := by
  have d : ∀ v : World, v.grownBy v.drew (some b) := fun v => ⟨rfl, rfl, rfl, Nat.le_refl _, fun _ _ _ => rfl⟩
  exact (((((grownBy_setCell w b 2 x).trans (d _)).trans (grownBy_setCell _ b 4 y)).trans (d _)).trans (grownBy_setCell _ b 1 z)).trans (grownBy_setCell _ b 2 u)

abbrev hp (b : Nat) : Value := .pointer (some ⟨b, 0, none⟩)
set_option maxHeartbeats 1600000 in
theorem start (b seed : Nat) (w : World) (h : Hs w b seed) : Calls Tryz.prog 214 #[hp b] w fun e w' => e = .returned (.int .u64 (keyN seed)) ∧ Hs w' b seed ∧ w.grownBy w' (some b) := by
  obtain ⟨d, q, key, hr, hd⟩ := h
  have hmf : ∀ (fn : Go.Fn) (first cap : Array Value) (w : World), (Instr.makeFunc fn first cap).run Tryz.prog w = .ok (.func fn first cap) w := fun _ _ _ _ => rfl
  have hlt := hr.lt
  have hr' : Row (w.alloc (.cells #[hp b] 24)) b seed d 0 q key := hr.below ((Below.refl _ _).alloc (Nat.le_refl _) _)
  have hpl : (w.alloc (.cells #[hp b] 24)).cell? ⟨w.heap.size, 0, none⟩ = some (hp b) := by simp [go_sem]
  have hal : w.grownBy (w.alloc (.cells #[hp b] 24)) (some b) := World.grownBy_alloc _ _ _
  rcases hd with rfl | ⟨rfl, rfl⟩
  · have hr2 := first_row hr'
    have hg2 := first_grown (w.alloc (.cells #[hp b] 24)) b (.int .i32 1) (.int .u64 (keyN seed)) (.int .u32 1) (.int .i32 0)
    have hp2 := hg2.cell hpl (by simp; omega)
    have c4 := hr2.c4
    have hres : Hs _ b seed := ⟨1, q, keyN seed, hr2, .inr ⟨rfl, rfl⟩⟩
    have HG := Lib.hid (hal.trans hg2)
    have HR := Lib.hid hres
    clear hr2 hg2 hres
    go_enter Tryz.func214, Tryz.ntmps214
    go_wp2_with (go_at_call 251; refine (do_first b seed q key ⟨w.heap.size, 0, none⟩ (by simp; omega) _ hpl hr').mono ?_; rintro e w' ⟨rfl, hw⟩; rw [← hw] at hp2 c4 HG HR; clear hw)
    go_ret
    exact ⟨rfl, HR.out, HG.out⟩
  · have c4 := hr'.c4
    go_enter Tryz.func214, Tryz.ntmps214
    go_wp2_with (go_at_call 251; refine (do_done b seed q _ _ _ hr').mono ?_; rintro e w' ⟨rfl, rfl⟩)
    go_ret
    exact ⟨rfl, ⟨1, q, _, hr', .inr ⟨rfl, rfl⟩⟩, hal⟩

theorem box3g {w w1 : World} {a0 a1 a2 : Value} {t : TypeId} {b : Nat} (h : (w.alloc (.cells #[a0, a1, a2] t)).grownBy w1 (some b)) (hb : b < w.heap.size) :
    w1.cell? ⟨w.heap.size, 0, none⟩ = some a0 ∧ w1.cell? ⟨w.heap.size, 1, none⟩ = some a1 ∧ w1.cell? ⟨w.heap.size, 2, none⟩ = some a2 := by
  refine ⟨h.cell ?_ ?_, h.cell ?_ ?_, h.cell ?_ ?_⟩ <;> first | (simp; omega) | simp [go_sem]

set_option maxHeartbeats 1600000 in
theorem hof (b seed : Nat) (k n : Int) (s : ByteArray) (w : World) (h : Hs w b seed) (hk : 0 ≤ k) (hk' : k ≤ 255) (h47 : 17 + s.size ≤ 140737488355328) :
    Calls Tryz.prog 153 #[hp b, vv k n s] w fun e w' => e = .returned (.int .u64 (hashN seed k n s)) ∧ Hs w' b seed ∧ w.grownBy w' (some b) := by
  have hlt := h.lt
  go_enter Tryz.func153, Tryz.ntmps153
  go_wp2_with fail
  refine (start b seed _ (h.alloc _)).mono ?_
  rintro e w1 ⟨rfl, h1, g1⟩
  obtain ⟨c0, c1, c2⟩ := box3g g1 hlt
  have hg1 : w.grownBy w1 (some b) := World.grownBy.trans (World.grownBy_alloc _ _ _) g1
  clear g1
  go_wp2_with fail
  refine (pvalue _ [] k n s w1 (Bs.nil _) hk (by omega) (by simp; omega)).mono ?_
  rintro e w2 ⟨v2, rfl, hown, hb2⟩
  rw [List.nil_append] at hown
  have hres : Hs w2 b seed ∧ w.grownBy w2 (some b) := ⟨h1.below hb2, grownBy_then hg1 hb2⟩
  have HB := Lib.hid hown.bs
  have HR := Lib.hid hres
  obtain ⟨A, c, rfl, hc⟩ := hown.bs.form
  have hlen : (valB k n s).length ≤ 140737488355328 := by have := valB_le k n s; omega
  obtain ⟨l, hl⟩ : ∃ l, l = valB k n s := ⟨_, rfl⟩
  rw [← hl] at HB hc hlen ⊢
  have HL := Lib.hid hl
  clear hl hown hb2 hg1 h1 c0 c1 c2 hres h
  go_wp2_with fail
  go_loopw [5, 15] (fun nv i wr => ∃ j : Nat, j ≤ l.length ∧ i = .int .i64 j ∧ nv = .int .u64 (bytesN (keyN seed) (l.take j)) ∧ w2 = wr) (fun _ i _ => l.length - (intOf i).toNat)
  case atStart => exact ⟨0, Nat.zero_le _, rfl, by simp [bytesN], rfl⟩
  case round =>
    obtain ⟨j, hj, rfl, rfl, rfl⟩ := hrel
    obtain ⟨m, hm⟩ : ∃ m, m = bytesN (keyN seed) (l.take j) := ⟨_, rfl⟩
    have hmn : m < 18446744073709551616 := by rw [hm]; exact bytesN_lt _ (keyN_lt _)
    rw [← hm]
    have HM := Lib.hid hm
    clear hm
    by_cases h1 : j < l.length
    · obtain ⟨b', o', c', e', hx⟩ := HB.out.at h1
      injection e' with eA _ _
      subst eA
      obtain ⟨x, hxl⟩ : ∃ x, x = l[j] := ⟨_, rfl⟩
      rw [← hxl] at hx
      have HX := Lib.hid hxl
      clear hxl
      go_wp2_with fail
      go_roundw
      case rel => exact ⟨j + 1, by omega, by go_num, by rw [bytesN_take h1, ← HM.out, ← HX.out, byteStep_run hmn], trivial⟩
      case measure => simp [intOf]; omega
    · obtain rfl : j = l.length := by omega
      rw [List.take_length] at HM
      go_wp2_with fail
      refine (mix m hmn _).mono ?_
      rintro e w' ⟨rfl, rfl⟩
      go_wp2_with fail
      go_ret
      exact ⟨ret_int (by rw [HM.out, HL.out]; rfl), HR.out⟩

set_option maxHeartbeats 1600000 in
theorem ref_of (seed : Nat) (k n : Int) (s : ByteArray) (w : World) (hk : 0 ≤ k) (hk' : k ≤ 255) (h47 : 17 + s.size ≤ 140737488355328) :
    Calls Tryz.prog 233 #[.int .u64 seed, vv k n s] w fun e w' => e = .returned (.int .u64 (hashN seed k n s)) ∧ Below w.heap.size w w' := by
  go_enter Tryz.func233, Tryz.ntmps233
  go_wp2_with fail
  refine (ref_key seed _).mono ?_
  rintro e w1 ⟨rfl, rfl⟩
  go_wp2_with fail
  refine (ref_value k n s _ hk (by omega) h47).mono ?_
  rintro e w2 ⟨v2, rfl, hown, hb2⟩
  have HR := Lib.hid (below_box hb2)
  have HB := Lib.hid hown.bs
  obtain ⟨A, c, rfl, hc⟩ := hown.bs.form
  have hlen : (valB k n s).length ≤ 140737488355328 := by have := valB_le k n s; omega
  obtain ⟨l, hl⟩ : ∃ l, l = valB k n s := ⟨_, rfl⟩
  rw [← hl] at HB hc hlen ⊢
  have HL := Lib.hid hl
  clear hl hown hb2
  go_wp2_with fail
  go_loopw [5, 7] (fun nv i wr => ∃ j : Nat, j ≤ l.length ∧ i = .int .i64 j ∧ nv = .int .u64 (bytesN (keyN seed) (l.take j)) ∧ w2 = wr) (fun _ i _ => l.length - (intOf i).toNat)
  case atStart => exact ⟨0, Nat.zero_le _, rfl, by simp [bytesN], rfl⟩
  case round =>
    obtain ⟨j, hj, rfl, rfl, rfl⟩ := hrel
    obtain ⟨m, hm⟩ : ∃ m, m = bytesN (keyN seed) (l.take j) := ⟨_, rfl⟩
    have hmn : m < 18446744073709551616 := by rw [hm]; exact bytesN_lt _ (keyN_lt _)
    rw [← hm]
    have HM := Lib.hid hm
    clear hm
    by_cases h1 : j < l.length
    · obtain ⟨b', o', c', e', hx⟩ := HB.out.at h1
      injection e' with eA _ _
      subst eA
      obtain ⟨x, hxl⟩ : ∃ x, x = l[j] := ⟨_, rfl⟩
      rw [← hxl] at hx
      have HX := Lib.hid hxl
      clear hxl
      go_wp2_with fail
      go_roundw
      case rel => exact ⟨j + 1, by omega, by go_num, by rw [bytesN_take h1, ← HM.out, ← HX.out, byteStep_run hmn], trivial⟩
      case measure => simp [intOf]; omega
    · obtain rfl : j = l.length := by omega
      rw [List.take_length] at HM
      go_wp2_with fail
      refine (ref_mix m hmn _).mono ?_
      rintro e w' ⟨rfl, rfl⟩
      go_wp2_with fail
      go_ret
      exact ⟨ret_int (by rw [HM.out, HL.out]; rfl), HR.out⟩

end Go.Proofs.YtdddhmipifkepaaGreat

namespace Go.Proofs.YtdddhmipifkepaaGreat
set_option maxRecDepth 100000
open Go.RowKit
theorem Hs.kp {w w' : World} {b seed : Nat} {G : Nat → Prop} (h : Hs w b seed) (hk : Kp G w w') (hn : ¬ G b) : Hs w' b seed := by
  obtain ⟨d, q, key, h, k⟩ := h
  exact ⟨d, q, key, hk.at h hn, k⟩
def ZW (w : World) (z : Nat) : Prop := w.heap[z]? = some (.cells #[.pointer none, .pointer none, .int .u32 0, .int .u64 0, .int .i64 0, .slice none 0 0, .slice none 0 0, .slice none 0 0, .int .i64 0, .bool false] 169 (0, 0))
section
variable {w w' : World} {z : Nat} {x : Wv}
theorem ZW.kp {G : Nat → Prop} (h : ZW w z) (hk : Kp G w w') (hn : ¬ G z) : ZW w' z := hk.at h hn
theorem ZW.lt (h : ZW w z) : z < w.heap.size := (Array.getElem?_eq_some_iff.1 h).1
theorem ZW.all (h : ZW w z) : w.cell? ⟨z, 0, none⟩ = some (.pointer none) ∧ w.cell? ⟨z, 1, none⟩ = some (.pointer none) ∧ w.cell? ⟨z, 2, none⟩ = some (.int .u32 0) ∧ w.cell? ⟨z, 3, none⟩ = some (.int .u64 0) ∧ w.cell? ⟨z, 4, none⟩ = some (.int .i64 0) ∧ w.cell? ⟨z, 5, none⟩ = some (.slice none 0 0) ∧ w.cell? ⟨z, 6, none⟩ = some (.slice none 0 0) ∧ w.cell? ⟨z, 7, none⟩ = some (.slice none 0 0) ∧ w.cell? ⟨z, 8, none⟩ = some (.int .i64 0) ∧ w.cell? ⟨z, 9, none⟩ = some (.bool false) := by
  refine ⟨?_, ?_, ?_, ?_, ?_, ?_, ?_, ?_, ?_, ?_⟩ <;> exact cell_of_row w z _ _ _ (0, 0) h
theorem ZW.fzs (h : ZW w z) : w.frozen? ⟨z, 0, none⟩ = false ∧ w.frozen? ⟨z, 1, none⟩ = false ∧ w.frozen? ⟨z, 2, none⟩ = false ∧ w.frozen? ⟨z, 3, none⟩ = false ∧ w.frozen? ⟨z, 4, none⟩ = false ∧ w.frozen? ⟨z, 5, none⟩ = false ∧ w.frozen? ⟨z, 6, none⟩ = false ∧ w.frozen? ⟨z, 7, none⟩ = false ∧ w.frozen? ⟨z, 8, none⟩ = false ∧ w.frozen? ⟨z, 9, none⟩ = false :=
  ⟨frozen_of_row w z _ _ _ h, frozen_of_row w z _ _ _ h, frozen_of_row w z _ _ _ h, frozen_of_row w z _ _ _ h, frozen_of_row w z _ _ _ h, frozen_of_row w z _ _ _ h, frozen_of_row w z _ _ _ h, frozen_of_row w z _ _ _ h, frozen_of_row w z _ _ _ h, frozen_of_row w z _ _ _ h⟩
theorem WC.fzs (h : WC w z x) : w.frozen? ⟨z, 0, none⟩ = false ∧ w.frozen? ⟨z, 1, none⟩ = false ∧ w.frozen? ⟨z, 2, none⟩ = false ∧ w.frozen? ⟨z, 3, none⟩ = false ∧ w.frozen? ⟨z, 4, none⟩ = false ∧ w.frozen? ⟨z, 5, none⟩ = false ∧ w.frozen? ⟨z, 6, none⟩ = false ∧ w.frozen? ⟨z, 7, none⟩ = false ∧ w.frozen? ⟨z, 8, none⟩ = false ∧ w.frozen? ⟨z, 9, none⟩ = false :=
  ⟨frozen_of_row w z _ _ _ h, frozen_of_row w z _ _ _ h, frozen_of_row w z _ _ _ h, frozen_of_row w z _ _ _ h, frozen_of_row w z _ _ _ h, frozen_of_row w z _ _ _ h, frozen_of_row w z _ _ _ h, frozen_of_row w z _ _ _ h, frozen_of_row w z _ _ _ h, frozen_of_row w z _ _ _ h⟩
theorem WC.set5 (h : WC w z x) (A : Option Addr) (n c : Nat) : WC (w.setCell ⟨z, 5, none⟩ (.slice A n c)) z { x with A4 := A, n4 := n, c4 := c } := by
  have := heap_setCell_same w z 5 _ _ (.slice A n c) h
  simpa [WC] using this
theorem WC.set6 (h : WC w z x) (A : Option Addr) (n c : Nat) : WC (w.setCell ⟨z, 6, none⟩ (.slice A n c)) z { x with A5 := A, n5 := n, c5 := c } := by
  have := heap_setCell_same w z 6 _ _ (.slice A n c) h
  simpa [WC] using this
theorem WC.set7 (h : WC w z x) (A : Option Addr) (n c : Nat) : WC (w.setCell ⟨z, 7, none⟩ (.slice A n c)) z { x with A6 := A, n6 := n, c6 := c } := by
  have := heap_setCell_same w z 7 _ _ (.slice A n c) h
  simpa [WC] using this
theorem WC.set8 (h : WC w z x) (n : Nat) : WC (w.setCell ⟨z, 8, none⟩ (.int .i64 (n : Int))) z { x with at' := n } := by
  have := heap_setCell_same w z 8 _ _ (.int .i64 (n : Int)) h
  simpa [WC] using this
theorem WC.set9 (h : WC w z x) (n : Bool) : WC (w.setCell ⟨z, 9, none⟩ (.bool n)) z { x with has := n } := by
  have := heap_setCell_same w z 9 _ _ (.bool n) h
  simpa [WC] using this
set_option maxHeartbeats 1600000 in
theorem ZW.put (h : ZW w z) (x : Wv) : WC ((((((((((w.setCell ⟨z, 0, none⟩ (ap x.b)).setCell ⟨z, 1, none⟩ (.pointer (some ⟨x.bh, 0, none⟩))).setCell ⟨z, 2, none⟩ (.int .u32 x.ow)).setCell ⟨z, 3, none⟩ (.int .u64 x.g)).setCell ⟨z, 4, none⟩ (.int .i64 x.root)).setCell ⟨z, 5, none⟩ (.slice x.A4 x.n4 x.c4)).setCell ⟨z, 6, none⟩ (.slice x.A5 x.n5 x.c5)).setCell ⟨z, 7, none⟩ (.slice x.A6 x.n6 x.c6)).setCell ⟨z, 8, none⟩ (.int .i64 x.at')).setCell ⟨z, 9, none⟩ (.bool x.has)) z x := by
  have h0 := heap_setCell_same _ z 0 _ _ (ap x.b) h
  have h1 := heap_setCell_same _ z 1 _ _ (.pointer (some ⟨x.bh, 0, none⟩)) h0
  have h2 := heap_setCell_same _ z 2 _ _ (.int .u32 x.ow) h1
  have h3 := heap_setCell_same _ z 3 _ _ (.int .u64 x.g) h2
  have h4 := heap_setCell_same _ z 4 _ _ (.int .i64 x.root) h3
  have h5 := heap_setCell_same _ z 5 _ _ (.slice x.A4 x.n4 x.c4) h4
  have h6 := heap_setCell_same _ z 6 _ _ (.slice x.A5 x.n5 x.c5) h5
  have h7 := heap_setCell_same _ z 7 _ _ (.slice x.A6 x.n6 x.c6) h6
  have h8 := heap_setCell_same _ z 8 _ _ (.int .i64 x.at') h7
  have h9 := heap_setCell_same _ z 9 _ _ (.bool x.has) h8
  simpa [WC] using h9
end
section
variable {M : Cells} {hs : Ky → Nat} {g lv i : Nat} {l lf : List Pr} {cl : List (Nat × Nat)}
theorem Wy.step (h : Wy M hs g lv i l cl lf) : ∃ (c : Hc) (r bL : Nat) (rest : List (Nat × Nat)), M i = some (c, r) ∧ c.b = (bL : Int) ∧ lv ≤ bL ∧ bL ≤ 13 ∧ Sound c ∧ cl = (i, bL) :: rest ∧
    ((bL = 13 ∧ rest = [] ∧ c.vals = flatP lf) ∨ (bL < 13 ∧ ∃ (s i' : Nat) (l' : List Pr), c.a = (s : Int) ∧ s < 4294967296 ∧ c.kids[sdx s g bL]? = some i' ∧ Wy M hs g (bL + 1) i' l' rest lf)) := by
  cases h with
  | leaf h => exact ⟨_, _, 13, [], h.cell, by rw [h.cb]; rfl, h.lv, Nat.le_refl _, h.sound, rfl, .inl ⟨rfl, rfl, h.vals⟩⟩
  | @node lv i l c r b s K L d cl lf h hT hd hx hw => exact ⟨c, r, b, cl, h.cell, h.cb, h.lv, Nat.le_of_lt h.b13, h.sound, rfl, .inr ⟨h.b13, s, K d, L d, h.ca, h.s32, by rw [← hx]; exact h.kid d (bit_lt h.s32 hd) hd, hw⟩⟩
theorem Wy.sublist (h : Wy M hs g lv i l cl lf) : lf.Sublist l := by
  induction h with
  | leaf h => exact List.Sublist.refl _
  | @node lv i l c r b s K L d cl lf h hT hd hx hw ih =>
    refine ih.trans ?_
    rw [h.eq]
    unfold joinL
    exact List.sublist_flatten_of_mem (List.mem_map.2 ⟨d, List.mem_range.2 (bit_lt h.s32 hd), rfl⟩) |> fun h => by simpa [List.flatMap] using h
theorem Wy.cl_len (h : Wy M hs g lv i l cl lf) : cl.length + lv ≤ 14 := by
  induction h with
  | leaf h => have := h.lv; simp only [List.length_cons, List.length_nil]; omega
  | node h _ _ _ _ ih => have := h.lv; simp only [List.length_cons]; omega
end
section
set_option maxHeartbeats 800000 in
theorem vlacks (b bh : Nat) (w : World) : Calls Tryz.prog 94 #[land b bh] w fun e w' => e = .returned (.bool false) ∧ Below w.heap.size w w' := by
  have HB := Lib.hid ((Below.refl w.heap.size w).alloc (Nat.le_refl _) (.cells #[ap b, .pointer (some ⟨bh, 0, none⟩)] 26))
  go_enter Tryz.func94, Tryz.ntmps94
  go_wp2_with fail
  go_ret
  exact ⟨rfl, HB.out⟩
end
structure Q6S (W : World) (zl zm zk b bh N root : Nat) (k : Ky) : Prop where
  lb : C2 W zl 26 (ap b) (.pointer (some ⟨bh, 0, none⟩))
  mb : C2 W zm 30 (.int .i64 (N : Int)) (.int .i64 (root : Int))
  kb : C3 W zk 36 (.int .u8 k.1) (.int .i64 k.2.1) (.string k.2.2)
theorem Q6S.kp {W W' : World} {zl zm zk b bh N root : Nat} {k : Ky} {G : Nat → Prop} (h : Q6S W zl zm zk b bh N root k) (hk : Kp G W W') (hn : ¬ G zl ∧ ¬ G zm ∧ ¬ G zk) : Q6S W' zl zm zk b bh N root k :=
  ⟨h.lb.kp hk hn.1, h.mb.kp hk hn.2.1, h.kb.kp hk hn.2.2⟩

end Go.Proofs.YtdddhmipifkepaaGreat

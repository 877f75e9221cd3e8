/- Several texts in one. -/
import Derived.Test.YtghbbpbhbinioaaGreatMr07
import Derived.Test.YtghbbpbhbinioaaGreatMr06
import Derived.Test.YtghbbpbhbinioaaGreatMr05
import Derived.IntWalk
import Derived.RangeFuncNested
import Derived.RangeFuncBound
import Derived.RangeFuncLeaves
import Derived.Shelf.Abstract
import Derived.Test.YtghbbpbhbinioaaGreatMr01
import Derived.OrdersIn
namespace Go.Proofs.YtghbbpbhbinioaaGreat
set_option maxRecDepth 100000
open Go.RowKit

def byteStep (n : Nat) (c : UInt8) : Nat := (n ^^^ c.toNat) * 1099511628211 % 18446744073709551616
def bytesN : Nat → List UInt8 → Nat
  | key, [] => key
  | key, c :: l => bytesN (byteStep key c) l
def hashN (seed : Nat) (k n : Int) (s : ByteArray) : Nat := mixN (bytesN (keyN seed) (valB k n s))
theorem byteStep_lt (n : Nat) (c : UInt8) : byteStep n c < 18446744073709551616 := Nat.mod_lt _ (by decide)
theorem bytesN_lt : ∀ (l : List UInt8) {key : Nat}, key < 18446744073709551616 → bytesN key l < 18446744073709551616
  | [], _, h => h
  | c :: l, key, _ => by rw [bytesN]; exact bytesN_lt l (byteStep_lt key c)
theorem bytesN_snoc : ∀ (l : List UInt8) (key : Nat) (c : UInt8), bytesN key (l ++ [c]) = byteStep (bytesN key l) c
  | [], _, _ => rfl
  | d :: l, key, c => by rw [List.cons_append, bytesN, bytesN, bytesN_snoc l]
theorem bytesN_take {key : Nat} {l : List UInt8} {j : Nat} (hj : j < l.length) : bytesN key (l.take (j + 1)) = byteStep (bytesN key (l.take j)) l[j] := by
  rw [List.take_add_one, List.getElem?_eq_getElem hj, Option.toList_some, bytesN_snoc]
theorem byteStep_run {n : Nat} (hn : n < 18446744073709551616) (c : UInt8) : IntKind.u64.wrap (bits .xor .u64 (n : Int) (IntKind.u64.wrap (c.toNat : Int)) * 1099511628211) = ((byteStep n c : Nat) : Int) := by
  have : c.toNat < 256 := c.toNat_lt
  rw [show IntKind.u64.wrap (c.toNat : Int) = (c.toNat : Int) by rw [IntKind.wrap_u64]; omega, bits_xor_u64_nat n c.toNat hn (by omega), IntKind.wrap_u64]
  unfold byteStep
  omega

theorem valB_le (k n : Int) (s : ByteArray) : (valB k n s).length ≤ 17 + s.size := by
  unfold valB
  rw [List.length_append, Lib.leBytes_length]
  split
  · rw [Lib.leBytes_length]; omega
  · split
    · rw [Lib.leBytes_length]; omega
    · split
      · rw [txtB_length]; omega
      · simp; omega

def Hs (w : World) (b seed : Nat) : Prop := ∃ (d : Int) (q key : Nat), Row w b seed d 0 q key ∧ (d = 0 ∨ d = 1 ∧ key = keyN seed)
section
variable {w w' : World} {b seed : Nat}
theorem Hs.lt (h : Hs w b seed) : b < w.heap.size := by obtain ⟨_, _, _, h, _⟩ := h; exact h.lt
theorem Hs.below (h : Hs w b seed) (hb : Below w.heap.size w w') : Hs w' b seed := by obtain ⟨d, q, key, h, k⟩ := h; exact ⟨d, q, key, h.below hb, k⟩
theorem Hs.grown (h : Hs w b seed) {row : Option Nat} (hg : w.grownBy w' row) (hb : some b ≠ row) : Hs w' b seed := by obtain ⟨d, q, key, h, k⟩ := h; exact ⟨d, q, key, h.grown hg hb, k⟩
theorem Hs.alloc (h : Hs w b seed) (o : Obj) : Hs (w.alloc o) b seed := h.below ((Below.refl _ _).alloc (Nat.le_refl _) o)
end

theorem hnew (seed : Nat) (w : World) : Calls Tryz.prog 47 #[.int .u64 seed] w fun e w' => e = .returned (.pointer (some ⟨w.heap.size, 0, none⟩)) ∧ Hs w' w.heap.size seed ∧ Gw w w' := by
  go_enter Tryz.func47, Tryz.ntmps47
  go_wp2
  go_ret
  exact ⟨rfl, ⟨0, 0, 0, heap_alloc_new w _, .inl rfl⟩, (Gw.refl _).alloc _ _⟩

set_option maxRecDepth 100000 in
set_option maxHeartbeats 1600000 in
theorem do_first (b seed q key : Nat) (pl : Addr) (hpb : ¬ b = pl.block) (w : World) (hp : w.cell? pl = some (.pointer (some ⟨b, 0, none⟩))) (h : Row w b seed 0 0 q key) :
    Calls Tryz.prog 165 #[.pointer (some ⟨b, 1, none⟩), .func (.func 166) #[] #[.pointer (some pl)]] w fun e w' => e = .returned (.tuple #[]) ∧
      w' = ((((w.setCell ⟨b, 2, none⟩ (.int .i32 1)).drew.setCell ⟨b, 4, none⟩ (.int .u64 (keyN seed))).drew.setCell ⟨b, 1, none⟩ (.int .u32 1)).setCell ⟨b, 2, none⟩ (.int .i32 0)) := by
  have hl := run_call_load (P := Tryz.prog) Tryz.func195 (by kernel_rfl) (by kernel_rfl) (by kernel_rfl) .u32 (by kernel_rfl) h.c1
  have hnot : ∀ (x : Bool) (w : World), (Op.unary .not (.bool x)).run Tryz.prog w = .ok (.bool (!x)) w := fun _ _ => rfl
  go_enter Tryz.func165, Tryz.ntmps165
  go_wp2_with (first | (go_at_call 186; refine (slow b seed q key pl hpb w hp h).mono ?_; rintro e w' ⟨rfl, rfl⟩) | (go_at_call 185; go_in))
  go_end0
  exact ⟨rfl, rfl⟩
theorem do_done (b seed q key : Nat) (fv : Value) (w : World) (h : Row w b seed 1 0 q key) :
    Calls Tryz.prog 165 #[.pointer (some ⟨b, 1, none⟩), fv] w fun e w' => e = .returned (.tuple #[]) ∧ w' = w := by
  have hl := run_call_load (P := Tryz.prog) Tryz.func195 (by kernel_rfl) (by kernel_rfl) (by kernel_rfl) .u32 (by kernel_rfl) h.c1
  have hnot : ∀ (x : Bool) (w : World), (Op.unary .not (.bool x)).run Tryz.prog w = .ok (.bool (!x)) w := fun _ _ => rfl
  go_enter Tryz.func165, Tryz.ntmps165
  go_wp2
  go_end0
  exact ⟨rfl, rfl⟩

theorem first_row {w : World} {b seed q key : Nat} (h : Row w b seed 0 0 q key) : Row ((((w.setCell ⟨b, 2, none⟩ (.int .i32 1)).drew.setCell ⟨b, 4, none⟩ (.int .u64 (keyN seed))).drew.setCell ⟨b, 1, none⟩ (.int .u32 1)).setCell ⟨b, 2, none⟩ (.int .i32 0)) b seed 1 0 q (keyN seed) :=
  ((((h.set2 1).drew.set4 (keyN seed)).drew.set1 1).set2 0)
theorem first_grown (w : World) (b : Nat) (x y z u : Value) : w.grownBy ((((w.setCell ⟨b, 2, none⟩ x).drew.setCell ⟨b, 4, none⟩ y).drew.setCell ⟨b, 1, none⟩ z).setCell ⟨b, 2, none⟩ u) (some b) := by
  have d : ∀ v : World, v.grownBy v.drew (some b) := fun v => ⟨rfl, rfl, rfl, Nat.le_refl _, fun _ _ _ => rfl⟩
  exact (((((grownBy_setCell w b 2 x).trans (d _)).trans (grownBy_setCell _ b 4 y)).trans (d _)).trans (grownBy_setCell _ b 1 z)).trans (grownBy_setCell _ b 2 u)

abbrev hp (b : Nat) : Value := .pointer (some ⟨b, 0, none⟩)
set_option maxHeartbeats 1600000 in
theorem start (b seed : Nat) (w : World) (h : Hs w b seed) : Calls Tryz.prog 134 #[hp b] w fun e w' => e = .returned (.int .u64 (keyN seed)) ∧ Hs w' b seed ∧ w.grownBy w' (some b) := by
  obtain ⟨d, q, key, hr, hd⟩ := h
  have hmf : ∀ (fn : Go.Fn) (first cap : Array Value) (w : World), (Instr.makeFunc fn first cap).run Tryz.prog w = .ok (.func fn first cap) w := fun _ _ _ _ => rfl
  have hlt := hr.lt
  have hr' : Row (w.alloc (.cells #[hp b] 24)) b seed d 0 q key := hr.below ((Below.refl _ _).alloc (Nat.le_refl _) _)
  have hpl : (w.alloc (.cells #[hp b] 24)).cell? ⟨w.heap.size, 0, none⟩ = some (hp b) := by simp [go_sem]
  have hal : w.grownBy (w.alloc (.cells #[hp b] 24)) (some b) := World.grownBy_alloc _ _ _
  rcases hd with rfl | ⟨rfl, rfl⟩
  · have hr2 := first_row hr'
    have hg2 := first_grown (w.alloc (.cells #[hp b] 24)) b (.int .i32 1) (.int .u64 (keyN seed)) (.int .u32 1) (.int .i32 0)
    have hp2 := hg2.cell hpl (by simp; omega)
    have c4 := hr2.c4
    have hres : Hs _ b seed := ⟨1, q, keyN seed, hr2, .inr ⟨rfl, rfl⟩⟩
    have HG := Lib.hid (hal.trans hg2)
    have HR := Lib.hid hres
    clear hr2 hg2 hres
    go_enter Tryz.func134, Tryz.ntmps134
    go_wp2_with (go_at_call 165; refine (do_first b seed q key ⟨w.heap.size, 0, none⟩ (by simp; omega) _ hpl hr').mono ?_; rintro e w' ⟨rfl, hw⟩; rw [← hw] at hp2 c4 HG HR; clear hw)
    go_ret
    exact ⟨rfl, HR.out, HG.out⟩
  · have c4 := hr'.c4
    go_enter Tryz.func134, Tryz.ntmps134
    go_wp2_with (go_at_call 165; refine (do_done b seed q _ _ _ hr').mono ?_; rintro e w' ⟨rfl, rfl⟩)
    go_ret
    exact ⟨rfl, ⟨1, q, _, hr', .inr ⟨rfl, rfl⟩⟩, hal⟩

theorem box3g {w w1 : World} {a0 a1 a2 : Value} {t : TypeId} {b : Nat} (h : (w.alloc (.cells #[a0, a1, a2] t)).grownBy w1 (some b)) (hb : b < w.heap.size) :
    w1.cell? ⟨w.heap.size, 0, none⟩ = some a0 ∧ w1.cell? ⟨w.heap.size, 1, none⟩ = some a1 ∧ w1.cell? ⟨w.heap.size, 2, none⟩ = some a2 := by
  refine ⟨h.cell ?_ ?_, h.cell ?_ ?_, h.cell ?_ ?_⟩ <;> first | (simp; omega) | simp [go_sem]

set_option maxHeartbeats 1600000 in
theorem hof (b seed : Nat) (k n : Int) (s : ByteArray) (w : World) (h : Hs w b seed) (hk : 0 ≤ k) (hk' : k ≤ 255) (h47 : 17 + s.size ≤ 140737488355328) :
    Calls Tryz.prog 83 #[hp b, vv k n s] w fun e w' => e = .returned (.int .u64 (hashN seed k n s)) ∧ Hs w' b seed ∧ w.grownBy w' (some b) := by
  have hlt := h.lt
  go_enter Tryz.func83, Tryz.ntmps83
  go_wp2_with fail
  refine (start b seed _ (h.alloc _)).mono ?_
  rintro e w1 ⟨rfl, h1, g1⟩
  obtain ⟨c0, c1, c2⟩ := box3g g1 hlt
  have hg1 : w.grownBy w1 (some b) := World.grownBy.trans (World.grownBy_alloc _ _ _) g1
  clear g1
  go_wp2_with fail
  refine (pvalue _ [] k n s w1 (Bs.nil _) hk (by omega) (by simp; omega)).mono ?_
  rintro e w2 ⟨v2, rfl, hown, hb2⟩
  rw [List.nil_append] at hown
  have hres : Hs w2 b seed ∧ w.grownBy w2 (some b) := ⟨h1.below hb2, grownBy_then hg1 hb2⟩
  have HB := Lib.hid hown.bs
  have HR := Lib.hid hres
  obtain ⟨A, c, rfl, hc⟩ := hown.bs.form
  have hlen : (valB k n s).length ≤ 140737488355328 := by have := valB_le k n s; omega
  obtain ⟨l, hl⟩ : ∃ l, l = valB k n s := ⟨_, rfl⟩
  rw [← hl] at HB hc hlen ⊢
  have HL := Lib.hid hl
  clear hl hown hb2 hg1 h1 c0 c1 c2 hres h
  go_wp2_with fail
  go_loopw [5, 15] (fun nv i wr => ∃ j : Nat, j ≤ l.length ∧ i = .int .i64 j ∧ nv = .int .u64 (bytesN (keyN seed) (l.take j)) ∧ w2 = wr) (fun _ i _ => l.length - (intOf i).toNat)
  case atStart => exact ⟨0, Nat.zero_le _, rfl, by simp [bytesN], rfl⟩
  case round =>
    obtain ⟨j, hj, rfl, rfl, rfl⟩ := hrel
    obtain ⟨m, hm⟩ : ∃ m, m = bytesN (keyN seed) (l.take j) := ⟨_, rfl⟩
    have hmn : m < 18446744073709551616 := by rw [hm]; exact bytesN_lt _ (keyN_lt _)
    rw [← hm]
    have HM := Lib.hid hm
    clear hm
    by_cases h1 : j < l.length
    · obtain ⟨b', o', c', e', hx⟩ := HB.out.at h1
      injection e' with eA _ _
      subst eA
      obtain ⟨x, hxl⟩ : ∃ x, x = l[j] := ⟨_, rfl⟩
      rw [← hxl] at hx
      have HX := Lib.hid hxl
      clear hxl
      go_wp2_with fail
      go_roundw
      case rel => exact ⟨j + 1, by omega, by go_num, by rw [bytesN_take h1, ← HM.out, ← HX.out, byteStep_run hmn], trivial⟩
      case measure => simp [intOf]; omega
    · obtain rfl : j = l.length := by omega
      rw [List.take_length] at HM
      go_wp2_with fail
      refine (mix m hmn _).mono ?_
      rintro e w' ⟨rfl, rfl⟩
      go_wp2_with fail
      go_ret
      exact ⟨ret_int (by rw [HM.out, HL.out]; rfl), HR.out⟩

end Go.Proofs.YtghbbpbhbinioaaGreat

namespace Go.Proofs.YtghbbpbhbinioaaGreat
set_option maxRecDepth 100000
open Go.RowKit
theorem Hs.kp {w w' : World} {b seed : Nat} {G : Nat → Prop} (h : Hs w b seed) (hk : Kp G w w') (hn : ¬ G b) : Hs w' b seed := by
  obtain ⟨d, q, key, h, k⟩ := h
  exact ⟨d, q, key, hk.at h hn, k⟩
def ZW (w : World) (z : Nat) : Prop := w.heap[z]? = some (.cells #[.pointer none, .pointer none, .int .u32 0, .int .u64 0, .int .i64 0, .slice none 0 0, .slice none 0 0, .slice none 0 0, .int .i64 0, .bool false] 104 (0, 0))
section
variable {w w' : World} {z : Nat} {x : Wv}
theorem ZW.kp {G : Nat → Prop} (h : ZW w z) (hk : Kp G w w') (hn : ¬ G z) : ZW w' z := hk.at h hn
theorem ZW.lt (h : ZW w z) : z < w.heap.size := (Array.getElem?_eq_some_iff.1 h).1
theorem ZW.all (h : ZW w z) : w.cell? ⟨z, 0, none⟩ = some (.pointer none) ∧ w.cell? ⟨z, 1, none⟩ = some (.pointer none) ∧ w.cell? ⟨z, 2, none⟩ = some (.int .u32 0) ∧ w.cell? ⟨z, 3, none⟩ = some (.int .u64 0) ∧ w.cell? ⟨z, 4, none⟩ = some (.int .i64 0) ∧ w.cell? ⟨z, 5, none⟩ = some (.slice none 0 0) ∧ w.cell? ⟨z, 6, none⟩ = some (.slice none 0 0) ∧ w.cell? ⟨z, 7, none⟩ = some (.slice none 0 0) ∧ w.cell? ⟨z, 8, none⟩ = some (.int .i64 0) ∧ w.cell? ⟨z, 9, none⟩ = some (.bool false) := by
  refine ⟨?_, ?_, ?_, ?_, ?_, ?_, ?_, ?_, ?_, ?_⟩ <;> exact cell_of_row w z _ _ _ (0, 0) h
theorem WC.set5 (h : WC w z x) (A : Option Addr) (n c : Nat) : WC (w.setCell ⟨z, 5, none⟩ (.slice A n c)) z { x with A4 := A, n4 := n, c4 := c } := by
  have := heap_setCell_same w z 5 _ _ (.slice A n c) h
  simpa [WC] using this
set_option maxHeartbeats 1600000 in
theorem ZW.put (h : ZW w z) (x : Wv) : WC ((((((((((w.setCell ⟨z, 0, none⟩ (ap x.b)).setCell ⟨z, 1, none⟩ (.pointer (some ⟨x.bh, 0, none⟩))).setCell ⟨z, 2, none⟩ (.int .u32 x.ow)).setCell ⟨z, 3, none⟩ (.int .u64 x.g)).setCell ⟨z, 4, none⟩ (.int .i64 x.root)).setCell ⟨z, 5, none⟩ (.slice x.A4 x.n4 x.c4)).setCell ⟨z, 6, none⟩ (.slice x.A5 x.n5 x.c5)).setCell ⟨z, 7, none⟩ (.slice x.A6 x.n6 x.c6)).setCell ⟨z, 8, none⟩ (.int .i64 x.at')).setCell ⟨z, 9, none⟩ (.bool x.has)) z x := by
  have h0 := heap_setCell_same _ z 0 _ _ (ap x.b) h
  have h1 := heap_setCell_same _ z 1 _ _ (.pointer (some ⟨x.bh, 0, none⟩)) h0
  have h2 := heap_setCell_same _ z 2 _ _ (.int .u32 x.ow) h1
  have h3 := heap_setCell_same _ z 3 _ _ (.int .u64 x.g) h2
  have h4 := heap_setCell_same _ z 4 _ _ (.int .i64 x.root) h3
  have h5 := heap_setCell_same _ z 5 _ _ (.slice x.A4 x.n4 x.c4) h4
  have h6 := heap_setCell_same _ z 6 _ _ (.slice x.A5 x.n5 x.c5) h5
  have h7 := heap_setCell_same _ z 7 _ _ (.slice x.A6 x.n6 x.c6) h6
  have h8 := heap_setCell_same _ z 8 _ _ (.int .i64 x.at') h7
  have h9 := heap_setCell_same _ z 9 _ _ (.bool x.has) h8
  simpa [WC] using h9
end
section
variable {M : Cells} {hs : Ky → Nat} {g lv i : Nat} {l lf : List Pr} {cl : List (Nat × Nat)}
theorem Wy.step (h : Wy M hs g lv i l cl lf) : ∃ (c : Hc) (r bL : Nat) (rest : List (Nat × Nat)), M i = some (c, r) ∧ c.b = (bL : Int) ∧ lv ≤ bL ∧ bL ≤ 13 ∧ Sound c ∧ cl = (i, bL) :: rest ∧
    ((bL = 13 ∧ rest = [] ∧ c.vals = flatP lf) ∨ (bL < 13 ∧ ∃ (s i' : Nat) (l' : List Pr), c.a = (s : Int) ∧ s < 4294967296 ∧ c.kids[sdx s g bL]? = some i' ∧ Wy M hs g (bL + 1) i' l' rest lf)) := by
  cases h with
  | leaf h => exact ⟨_, _, 13, [], h.cell, by rw [h.cb]; rfl, h.lv, Nat.le_refl _, h.sound, rfl, .inl ⟨rfl, rfl, h.vals⟩⟩
  | @node lv i l c r b s K L d cl lf h hT hd hx hw => exact ⟨c, r, b, cl, h.cell, h.cb, h.lv, Nat.le_of_lt h.b13, h.sound, rfl, .inr ⟨h.b13, s, K d, L d, h.ca, h.s32, by rw [← hx]; exact h.kid d (bit_lt h.s32 hd) hd, hw⟩⟩
theorem Wy.sublist (h : Wy M hs g lv i l cl lf) : lf.Sublist l := by
  induction h with
  | leaf h => exact List.Sublist.refl _
  | @node lv i l c r b s K L d cl lf h hT hd hx hw ih =>
    refine ih.trans ?_
    rw [h.eq]
    unfold joinL
    exact List.sublist_flatten_of_mem (List.mem_map.2 ⟨d, List.mem_range.2 (bit_lt h.s32 hd), rfl⟩) |> fun h => by simpa [List.flatMap] using h
end
section
end
structure Q6S (W : World) (zl zm zk b bh N root : Nat) (k : Ky) : Prop where
  lb : C2 W zl 26 (ap b) (.pointer (some ⟨bh, 0, none⟩))
  mb : C2 W zm 30 (.int .i64 (N : Int)) (.int .i64 (root : Int))
  kb : C3 W zk 36 (.int .u8 k.1) (.int .i64 k.2.1) (.string k.2.2)
theorem Q6S.kp {W W' : World} {zl zm zk b bh N root : Nat} {k : Ky} {G : Nat → Prop} (h : Q6S W zl zm zk b bh N root k) (hk : Kp G W W') (hn : ¬ G zl ∧ ¬ G zm ∧ ¬ G zk) : Q6S W' zl zm zk b bh N root k :=
  ⟨h.lb.kp hk hn.1, h.mb.kp hk hn.2.1, h.kb.kp hk hn.2.2⟩

end Go.Proofs.YtghbbpbhbinioaaGreat

namespace Go.Proofs.YtghbbpbhbinioaaGreat
set_option maxRecDepth 100000
open Go.RowKit
structure WayR (w w' : World) (bh seed b g root : Nat) (ow : Int) (k : Ky) (x : Wv) (cl : List (Nat × Nat)) (lf : List Pr) : Prop where
  kp : Kp (fun q => q = bh) w w'
  hh : Hs w' bh seed
  xb : x.b = b ∧ x.bh = bh ∧ x.ow = ow ∧ x.g = g ∧ x.root = root ∧ x.at' = 2 * lowN k lf ∧ x.has = hasN k lf
  o4 : w'.ownsRow w.heap.size 3 1 (.slice x.A4 x.n4 x.c4) x.n4 (nums (ns (cl.map Prod.fst)))
  o5 : w'.ownsRow w.heap.size 3 1 (.slice x.A5 x.n5 x.c5) x.n5 (nums (ns (cl.map Prod.snd)))
  o6 : w'.ownsRow w.heap.size 36 3 (.slice x.A6 x.n6 x.c6) x.n6 ((flatP lf).flatMap cells3)
  len : x.n4 = cl.length ∧ x.n5 = cl.length ∧ x.n6 = (flatP lf).length
structure Wt (w W : World) (bh seed zl zk zr z10 b : Nat) (k : Ky) (ow : Int) (g root : Nat) (n4 n5 : Nat) (is ls : List Nat) (vs : List V3) (A4 : Option Addr) (c4 : Nat) (A5 : Option Addr) (c5 : Nat) (A6 : Option Addr) (n6 c6 : Nat) : Prop where
  kp : Kp (fun q => q = bh) w W
  hh : Hs W bh seed
  lb : C2 W zl 26 (ap b) (.pointer (some ⟨bh, 0, none⟩))
  kb : C3 W zk 36 (.int .u8 k.1) (.int .i64 k.2.1) (.string k.2.2)
  rb : ZW W zr
  wy : WC W z10 ⟨b, bh, ow, g, root, A4, n4, c4, A5, n5, c5, A6, n6, c6, 0, false⟩
  o4 : W.ownsRow w.heap.size 3 1 (.slice A4 n4 c4) n4 (nums (ns is))
  o5 : W.ownsRow w.heap.size 3 1 (.slice A5 n5 c5) n5 (nums (ns ls))
  o6 : W.ownsRow w.heap.size 36 3 (.slice A6 n6 c6) n6 (vs.flatMap cells3)
  ne : ∀ q, (Value.slice A4 n4 c4).ownBlock = some q → (Value.slice A5 n5 c5).ownBlock ≠ some q
  far : bh < w.heap.size ∧ w.heap.size ≤ zl ∧ w.heap.size ≤ zk ∧ w.heap.size ≤ zr ∧ w.heap.size ≤ z10 ∧ zl ≠ z10 ∧ zk ≠ z10 ∧ zr ≠ z10
section
variable {w W W' : World} {bh seed zl zk zr z10 b : Nat} {k : Ky} {ow : Int} {g root n4 n5 : Nat} {is ls : List Nat} {vs : List V3} {A4 : Option Addr} {c4 : Nat} {A5 : Option Addr} {c5 : Nat} {A6 : Option Addr} {n6 c6 : Nat}
theorem Wt.below (h : Wt w W bh seed zl zk zr z10 b k ow g root n4 n5 is ls vs A4 c4 A5 c5 A6 n6 c6) (hb : Below W.heap.size W W') : Wt w W' bh seed zl zk zr z10 b k ow g root n4 n5 is ls vs A4 c4 A5 c5 A6 n6 c6 := by
  have hk := Kp.of_below hb (fun _ => False)
  exact ⟨h.kp.trans hk (fun _ h => h.elim), h.hh.below hb, h.lb.below hb, h.kb.below hb, h.rb.kp hk id, h.wy.below hb, hk.own h.o4 (fun _ _ h => h), hk.own h.o5 (fun _ _ h => h), hk.own h.o6 (fun _ _ h => h), h.ne, h.far⟩
end
section
variable {b most : Nat} {M : Cells} {F : Nat → Prop}
end

end Go.Proofs.YtghbbpbhbinioaaGreat

namespace Go.Proofs.YtghbbpbhbinioaaGreat
open Go.RowKit

theorem Rn.trans {w w1 w2 : World} {b most : Nat} {M1 M2 : Cells} {F F1 F2 : Nat → Prop} (h : Rn w w1 b most M1 F F1) (k : Rn w1 w2 b most M2 F1 F2) : Rn w w2 b most M2 F F2 :=
  ⟨k.ar, h.kp.trans k.kp h.sub, fun x hx => by
    rcases k.sub x hx with h1 | h1
    · exact h.sub x h1
    · exact .inr (Nat.le_trans h.kp.size h1)⟩
section
variable {M M' : Cells} {hs : Ky → Nat} {k : Ky} {lv i lvj j : Nat} {l lj : List Pr} {cl : List (Nat × Nat)}
theorem NodeF.kidm {c : Hc} {r b s : Nat} {K : Nat → Nat} {L : Nat → List Pr} (h : NodeF M hs lv i l c r b s K L) {d : Nat} (hd : s.testBit d = true) : K d ∈ c.kids := List.mem_of_getElem? (h.kid d (bit_lt h.s32 hd) hd)
theorem Wp.ht (h : Wp M hs k lv i l cl lvj j lj) : HT M hs lv i l := by
  cases h with
  | nil h => exact h
  | cons h hT => exact .node h hT
theorem Wp.end (h : Wp M hs k lv i l cl lvj j lj) : HT M hs lvj j lj := by
  induction h with
  | nil h => exact h
  | cons _ _ _ _ _ ih => exact ih
theorem Wp.reach (hz : M 0 = none) (h : Wp M hs k lv i l cl lvj j lj) : Reach M i j := by
  have key : ∀ {x y z : Nat}, Reach M x y → Reach M y z → Reach M x z := fun h1 h2 => by
    induction h2 with
    | refl => exact h1
    | kid _ hk h0 ih => exact .kid ih hk h0
  induction h with
  | nil h => exact .refl
  | @cons lv i l c r b s K L cl lvj j lj h hT hd ha hw ih =>
    exact key (.kid .refl (by rw [h.cell]; exact h.kidm hd) ((hT _ (dg_lt _ _) hd).pos hz)) ih
theorem Wp.pres (hz : M 0 = none) (h : Wp M hs k lv i l cl lvj j lj) (hp : Pres M M' i) : Wp M' hs k lv i l cl lvj j lj := by
  induction h with
  | nil h => exact .nil (h.pres hz hp)
  | @cons lv i l c r b s K L cl lvj j lj h hT hd ha hw ih =>
    obtain ⟨r', e⟩ := hp i c r .refl h.cell
    have hk : ∀ d, d < 32 → s.testBit d = true → Pres M M' (K d) := fun d h32 hd' => hp.kid h.cell (h.kidm hd') ((hT d h32 hd').pos hz)
    exact .cons (r := r') { h with cell := e } (fun d h32 hd' => (hT d h32 hd').pres hz (hk d h32 hd')) hd ha (ih (hk _ (dg_lt _ _) hd))
end

structure PR (most : Nat) (M : Cells) (H : List Nat) (P : Nat → Nat) (hs : Ky → Nat) (k : Ky) (new : Pr → Prop) (lv : Nat) (l : List Pr) (q : Nat) (n : Nat) (M' : Cells) : Prop where
  pos : 1 ≤ n
  bk : Bk (most + 1) M' H P [n]
  keeps : Keeps P (blank M H) (blank M' H)
  holes : ∀ x ∈ H, M' x = M x
  live : live (most + 1) M' ≤ Proofs.YtghbbpbhbinioaaGreat.live (most + 1) M + q
  ht : ∃ l', HT (blank M' H) hs lv n l' ∧ Chd k new l l'

section
variable {most : Nat} {hs : Ky → Nat} {k : Ky} {new : Pr → Prop} {lvj j : Nat} {lj : List Pr}
end

end Go.Proofs.YtghbbpbhbinioaaGreat

namespace Go.Proofs.YtghbbpbhbinioaaGreat
set_option maxRecDepth 100000
open Go.RowKit

def beg1 (M : Cells) (root : Nat) (ow : Int) : Cells := if ow = 0 then keepC M root else M
def out1 (P : Nat → Nat) (root : Nat) (ow : Int) : Nat → Nat := if ow = 0 then addP P root else P
theorem out1_le (P : Nat → Nat) (root : Nat) (ow : Int) (j : Nat) : out1 P root ow j ≤ P j + 1 := by
  unfold out1
  split
  · unfold addP; split <;> omega
  · omega
theorem beg1_pres (M : Cells) (root : Nat) (ow : Int) (r : Nat) : Pres M (beg1 M root ow) r := by
  unfold beg1
  split
  · exact Pres.all all_keepC
  · exact Pres.refl _ _
theorem keepC_live1 {N : Nat} {M : Cells} {i : Nat} : live N (keepC M i) = live N M := by
  unfold keepC
  cases e : M i with
  | none => rfl
  | some x => exact live_upd_some N (by rw [e]; simp) _
theorem beg1_live {N : Nat} (M : Cells) (root : Nat) (ow : Int) : live N (beg1 M root ow) = live N M := by
  unfold beg1
  split
  · exact keepC_live1
  · rfl
theorem Bk.beg1 {N : Nat} {M : Cells} {P : Nat → Nat} {root : Nat} (h : Bk N M [] P [root]) (ow : Int) : Bk N (beg1 M root ow) [] (out1 P root ow) [root] := by
  unfold Proofs.YtghbbpbhbinioaaGreat.beg1 out1
  split
  · have h1 := h.keep (i := root) (fun h0 => h.hand (by simp) h0)
    refine h1.move (fun k _ => ?_) (fun x hx => by simp at hx)
    show P k + (root :: [root]).count k = addP P root k + [root].count k
    rw [List.count_cons]
    unfold addP
    by_cases e : k = root
    · subst e; simp
    · rw [if_neg e, if_neg (by simpa using Ne.symm e)]; omega
  · exact h
theorem alone_zero (M : Cells) (i : Nat) : aloneB M i 0 = false := by
  unfold aloneB
  cases M i with
  | none => rfl
  | some y => simp
theorem fresh_zero (M : Cells) : ∀ l, freshN M 0 l = l.length
  | [] => rfl
  | i :: l => by
    show (if aloneB M i 0 = true then freshN M 0 l else l.length + 1) = _
    rw [alone_zero]
    rfl
structure MRes (most : Nat) (M : Cells) (P : Nat → Nat) (hs : Ky → Nat) (k : Ky) (new : Pr → Prop) (root : Nat) (ow : Int) (l : List Pr) (q n : Nat) (M' : Cells) : Prop where
  bk : Bk (most + 1) M' [] (out1 P root ow) [n]
  keeps : Keeps (out1 P root ow) M M'
  live : live (most + 1) M' ≤ Proofs.YtghbbpbhbinioaaGreat.live (most + 1) M + q
  ht : ∃ l', HT M' hs 0 n l' ∧ Chd k new l l'
section
variable {most : Nat} {M : Cells} {F : Nat → Prop} {hs : Ky → Nat} {k : Ky} {new : Pr → Prop} {lvj j : Nat} {lj l : List Pr}
end

end Go.Proofs.YtghbbpbhbinioaaGreat

namespace Go.Proofs.YtghbbpbhbinioaaGreat
set_option maxRecDepth 100000
open Go.RowKit
section
variable {most : Nat} {M : Cells} {F : Nat → Prop} {hs : Ky → Nat} {k : Ky} {new : Pr → Prop} {lvj j : Nat} {lj l : List Pr}
end

end Go.Proofs.YtghbbpbhbinioaaGreat

namespace Go.Proofs.YtghbbpbhbinioaaGreat
set_option maxRecDepth 100000
open Go.RowKit
theorem Bk.leaf {N : Nat} {M : Cells} {H hs : List Nat} {P : Nat → Nat} (h : Bk N M H P hs) {n : Nat} (c : Hc) (hc : c.kids = []) (h1 : 1 ≤ n) (hN : n < N) (hn : M n = none) : Bk N (upd M n (some (c, 1))) H P (n :: hs) := by
  refine Bk.make (c := c) (hs := hs) ?_ h1 hN hn (by rw [hc]; decide)
  rw [hc]; exact h
section
variable {most : Nat} {M : Cells} {F : Nat → Prop} {hs : Ky → Nat} {k v : Ky} {l lf : List Pr}
theorem Wy.part {lv j b : Nat} {lj : List Pr} {rest : List (Nat × Nat)} {near : Pr} (h : Wy M hs (hs k) lv j lj ((j, b) :: rest) lf) (hb : b < 13) (hn : near ∈ lf) (hp : pt (hs near.1) (hs k) = b) : ∃ c r s K L, NodeF M hs lv j lj c r b s K L ∧ (∀ d, d < 32 → s.testBit d = true → HT M hs (b + 1) (K d) (L d)) ∧ s.testBit (dg (hs k) b) = false := by
  generalize hcl : (j, b) :: rest = cl at h
  cases h with
  | leaf h => injection hcl with e1 e2; injection e1 with _ e3; omega
  | @node _ _ _ c r b' s K L d cl' _ h hT hd hx hw =>
    injection hcl with e1 e2
    injection e1 with _ e3
    subst e3
    refine ⟨c, r, s, K, L, h, hT, ?_⟩
    cases e : s.testBit (dg (hs k) b) with
    | false => rfl
    | true =>
      unfold sdx at hx
      rw [if_pos e] at hx
      have hd2 := cnt_inj hd e hx
      have h1 := h.dig d near (hw.sub near hn)
      exact absurd (h1.trans hd2) (by rw [← hp]; exact pt_ne (by rw [hp]; exact hb))
end

end Go.Proofs.YtghbbpbhbinioaaGreat

namespace Go.Proofs.YtghbbpbhbinioaaGreat
set_option maxRecDepth 100000
open Go.RowKit
section
variable {most : Nat} {M : Cells} {F : Nat → Prop} {hs : Ky → Nat} {k v : Ky} {l lf : List Pr}
end

end Go.Proofs.YtghbbpbhbinioaaGreat

namespace Go.Proofs.YtghbbpbhbinioaaGreat
set_option maxRecDepth 100000
open Go.RowKit
section
end
section
variable {most : Nat} {M : Cells} {F : Nat → Prop} {hs : Ky → Nat} {k v : Ky}
end
end Go.Proofs.YtghbbpbhbinioaaGreat

namespace Go.Proofs.YtghbbpbhbinioaaGreat
set_option maxRecDepth 100000
open Go.RowKit
abbrev OkK (p : Ky) : Prop := 0 ≤ p.1 ∧ p.1 ≤ 255 ∧ 17 + p.2.2.size ≤ 140737488355328
structure StpH (w w' : World) (b bh seed most : Nat) (M' : Cells) (F : Nat → Prop) : Prop where
  ar : Ar w' b most M' (Fn F w w')
  kp : Kp (fun q => F q ∨ q = bh) w w'
  hh : Hs w' bh seed
theorem StpH.mk' {w w1 w' : World} {b bh seed most : Nat} {M' : Cells} {F : Nat → Prop} (hF : ∀ q, F q → q < w.heap.size) (hk : Kp (fun q => q = bh) w w1) (hh : Hs w1 bh seed) (hn : ¬ F bh) (hs : Stp w1 w' b most M' F) : StpH w w' b bh seed most M' F :=
  ⟨hs.ar.mono (fun q hq => by
    rcases hq with hq | hq
    · exact .inl hq
    · exact .inr ⟨Nat.le_trans hk.size hq.1, hq.2⟩) (fun q hq => by
    rcases hq with hq | hq
    · exact Nat.lt_of_lt_of_le (hF q hq) (Nat.le_trans hk.size hs.kp.size)
    · exact hq.2), (hk.mono (fun q h _ => .inr h)).trans hs.kp (fun q h => .inl (.inl h)), hh.kp hs.kp hn⟩
theorem MRes.le {most : Nat} {M : Cells} {P : Nat → Nat} {hs : Ky → Nat} {k : Ky} {new : Pr → Prop} {root : Nat} {ow : Int} {l : List Pr} {q q' n : Nat} {M' : Cells} (h : MRes most M P hs k new root ow l q n M') (hq : q ≤ q') : MRes most M P hs k new root ow l q' n M' :=
  ⟨h.bk, h.keeps, Nat.le_trans h.live (by omega), h.ht⟩
structure Q7S (W : World) (z3 : Nat) (x : Wv) (gL : Nat) (np : Ky) : Prop where
  wy : WC W z3 x
  l7 : W.cell? ⟨z3, 7, none⟩ = some (.slice (some ⟨gL, 0, none⟩) x.n6 x.c6)
  n0 : W.cell? ⟨gL, 0, none⟩ = some (.int .u8 np.1)
  n1 : W.cell? ⟨gL, 1, none⟩ = some (.int .i64 np.2.1)
  n2 : W.cell? ⟨gL, 2, none⟩ = some (.string np.2.2)
theorem Q7S.kp {W W' : World} {z3 : Nat} {x : Wv} {gL : Nat} {np : Ky} {G : Nat → Prop} (h : Q7S W z3 x gL np) (hk : Kp G W W') (hn : ¬ G z3 ∧ ¬ G gL) : Q7S W' z3 x gL np :=
  ⟨h.wy.kp hk hn.1, hk.cell h.l7 hn.1, hk.cell h.n0 hn.2, hk.cell h.n1 hn.2, hk.cell h.n2 hn.2⟩
structure Q8S (W : World) (z3 b9 g5 : Nat) (x : Wv) (level yl n : Nat) : Prop where
  wy : WC W z3 x
  l6 : W.cell? ⟨z3, 6, none⟩ = some (.slice (some ⟨g5, 0, none⟩) x.n5 x.c5)
  lv : C1 W b9 3 (.int .i64 (level : Nat))
  kc : W.cell? ⟨g5, n, none⟩ = some (.int .i64 (yl : Nat))
theorem Q8S.kp {W W' : World} {z3 b9 g5 : Nat} {x : Wv} {level yl n : Nat} (h : Q8S W z3 b9 g5 x level yl n) {G : Nat → Prop} (hk : Kp G W W') (hn : ∀ q, ¬ G q) : Q8S W' z3 b9 g5 x level yl n :=
  ⟨h.wy.kp hk (hn _), hk.cell h.l6 (hn _), h.lv.kp hk (hn _), hk.cell h.kc (hn _)⟩
section
variable {most : Nat} {M : Cells} {F : Nat → Prop} {hs : Ky → Nat} {l lf : List Pr}
end
end Go.Proofs.YtghbbpbhbinioaaGreat

namespace Go.Proofs.YtghbbpbhbinioaaGreat
set_option maxRecDepth 100000
open Go.RowKit
section
variable {b most : Nat} {M : Cells} {F : Nat → Prop}
end
end Go.Proofs.YtghbbpbhbinioaaGreat

namespace Go.Proofs.YtghbbpbhbinioaaGreat
set_option maxRecDepth 100000
open Go.RowKit
section
variable {most : Nat} {M : Cells} {F : Nat → Prop} {hs : Ky → Nat}
end
end Go.Proofs.YtghbbpbhbinioaaGreat

namespace Go.Proofs.YtghbbpbhbinioaaGreat
set_option maxRecDepth 100000
open Go.RowKit
def Mp (M : Cells) (hs : Ky → Nat) (root : Nat) (l : List Pr) : Prop := (l = [] ∧ root = 0) ∨ HT M hs 0 root l
theorem Mp.srt {M : Cells} {hs : Ky → Nat} {root : Nat} {l : List Pr} (h : Mp M hs root l) : Srt hs l := by
  rcases h with ⟨rfl, _⟩ | h
  · exact List.Pairwise.nil
  · exact h.srt
structure MapR (most : Nat) (M : Cells) (P : Nat → Nat) (hs : Ky → Nat) (root : Nat) (ow : Int) (l' : List Pr) (n : Nat) (M' : Cells) : Prop where
  bk : Bk (most + 1) M' [] (out1 P root ow) [n]
  keeps : Keeps (out1 P root ow) M M'
  live : live (most + 1) M' ≤ Proofs.YtghbbpbhbinioaaGreat.live (most + 1) M + 16
  mp : Mp M' hs n l'
theorem MRes.put {most : Nat} {M : Cells} {P : Nat → Nat} {hs : Ky → Nat} {k v : Ky} {root : Nat} {ow : Int} {l : List Pr} {n : Nat} {M' : Cells} (h : MRes most M P hs k (fun q => q = (k, v)) root ow l 16 n M') (hl : Srt hs l) : MapR most M P hs root ow (putL hs (k, v) l) n M' := by
  obtain ⟨l', hT, hc⟩ := h.ht
  have e := putL_uniq hl hT.srt hc
  exact ⟨h.bk, h.keeps, h.live, .inr (e ▸ hT)⟩
theorem StpH.close {w w3 w' w'' : World} {b bh seed most : Nat} {M' : Cells} {F G : Nat → Prop} (hF : ∀ q, F q → q < w.heap.size) (hbh : bh < w.heap.size) (hk : Kp (fun q => q = bh) w w3) (hs : StpH w3 w' b bh seed most M' F) (h9 : Kp G w' w'') (hG : ∀ q, G q → w.heap.size ≤ q ∧ q < w3.heap.size) : StpH w w'' b bh seed most M' F := by
  have s1 := hk.size
  have s2 := hs.kp.size
  have s3 := h9.size
  have ha : Ar w'' b most M' (Fn F w3 w') := hs.ar.kp h9 (fun q hq hg => by
    have := hG q hg
    rcases hq with hq | hq
    · have := hF q hq; omega
    · omega)
  refine ⟨ha.mono (fun q hq => ?_) (fun q hq => ?_), ?_, hs.hh.kp h9 (fun hg => by have := hG bh hg; omega)⟩
  · rcases hq with hq | hq
    · exact .inl hq
    · exact .inr ⟨by omega, by omega⟩
  · rcases hq with hq | hq
    · have := hF q hq; omega
    · exact hq.2
  · exact ((hk.mono (fun q h _ => .inr h)).trans hs.kp (fun q h => .inl h)).trans h9 (fun q h => .inr (hG q h).1)
section
variable {most : Nat} {M : Cells} {F : Nat → Prop} {hs : Ky → Nat} {l : List Pr}
end
end Go.Proofs.YtghbbpbhbinioaaGreat

namespace Go.Proofs.YtghbbpbhbinioaaGreat
set_option maxRecDepth 100000
open Go.RowKit
structure Q10 (W : World) (z5 z6 z7 z8 z10 b bh N root : Nat) (k v : Ky) : Prop where
  lb : C2 W z5 26 (ap b) (.pointer (some ⟨bh, 0, none⟩))
  mb : C2 W z6 30 (.int .i64 (N : Int)) (.int .i64 (root : Int))
  kb : C3 W z7 36 (.int .u8 k.1) (.int .i64 k.2.1) (.string k.2.2)
  vb : C3 W z8 36 (.int .u8 v.1) (.int .i64 v.2.1) (.string v.2.2)
  rb : C2 W z10 30 (.int .i64 0) (.int .i64 0)
theorem Q10.kp {W W' : World} {z5 z6 z7 z8 z10 b bh N root : Nat} {k v : Ky} {G : Nat → Prop} (h : Q10 W z5 z6 z7 z8 z10 b bh N root k v) (hk : Kp G W W') (hn : ∀ q, q = z5 ∨ q = z6 ∨ q = z7 ∨ q = z8 ∨ q = z10 → ¬ G q) : Q10 W' z5 z6 z7 z8 z10 b bh N root k v :=
  ⟨h.lb.kp hk (hn _ (.inl rfl)), h.mb.kp hk (hn _ (.inr (.inl rfl))), h.kb.kp hk (hn _ (.inr (.inr (.inl rfl)))), h.vb.kp hk (hn _ (.inr (.inr (.inr (.inl rfl))))), h.rb.kp hk (hn _ (.inr (.inr (.inr (.inr rfl)))))⟩
section
variable {most : Nat} {M : Cells} {F : Nat → Prop} {hs : Ky → Nat} {l : List Pr}
end
end Go.Proofs.YtghbbpbhbinioaaGreat

namespace Go.Proofs.YtghbbpbhbinioaaGreat
set_option maxRecDepth 100000
open Go.RowKit
def noV : Ky := (0, 0, ⟨#[]⟩)
def lookV (k : Ky) (l : List Pr) : Ky := (lookL k l).getD noV
section
variable {most : Nat} {M : Cells} {F : Nat → Prop} {hs : Ky → Nat} {l : List Pr}
end
end Go.Proofs.YtghbbpbhbinioaaGreat

namespace Go.Proofs.YtghbbpbhbinioaaGreat
set_option maxRecDepth 100000
open Go.RowKit
section
variable {most : Nat} {M : Cells} {F : Nat → Prop} {hs : Ky → Nat} {l : List Pr}
end
end Go.Proofs.YtghbbpbhbinioaaGreat

namespace Go.Proofs.YtghbbpbhbinioaaGreat
set_option maxRecDepth 100000
open Go Go.RowKit

section
variable {α : Type} {P : Program}

structure Books (D : Nat) (r : Loop) (W : World) : Prop where
  row : W.heap[D + 1]? = some (.loop r)
  def' : W.heap[D]? = some (.deferred (some []))

theorem Books.below {D : Nat} {r : Loop} {A B : World} (h : Books D r A) (g : Below A.heap.size A B) : Books D r B :=
  ⟨(g.block _ (Array.getElem?_eq_some_iff.1 h.row).1).trans h.row, (g.block _ (Array.getElem?_eq_some_iff.1 h.def').1).trans h.def'⟩
theorem Books.keeps {D : Nat} {r : Loop} {A B : World} (h : Books D r A) (g : KeepsOthers A B) : Books D r B := ⟨g.same _ _ h.row rfl, g.same _ _ h.def' rfl⟩
theorem Books.put {D : Nat} {r : Loop} {A : World} (h : Books D r A) (r' : Loop) : Books D r' (A.putObj (D + 1) (.loop r')) :=
  ⟨World.putObj_heap_same (Array.getElem?_eq_some_iff.1 h.row).1, (World.putObj_heap_other (by omega)).trans h.def'⟩

theorem below_own {B : Nat} {I : Nat → World → Prop} (h : OwnFrom B I) {i : Nat} {A C : World} (hI : I i A) (g : Below A.heap.size A C) : I i C :=
  h i A C none hI (grownBy_below g none) (fun r e => by cases e)

end

end Go.Proofs.YtghbbpbhbinioaaGreat

namespace Go.Proofs.YtghbbpbhbinioaaGreat
open Go Go.RowKit
section
variable {F : Fence} {n : Nat} {P : Program} {ops : Array Oper} {Q : Exit → Act → World → Prop} {S : World → Prop}
def Due (P : Program) (ops : Array Oper) (S : World → Prop) (o : Oper) (v : Value) (a : Act) : Prop :=
  (∀ w, o.about P w a.eval = none) ∧ ((Region.wanted o (yielded ops a.tmps) = true ∧ ∀ w, S w → (execOp a.eval o).run P w = .ok (.value v) w) ∨ (Region.wanted o (yielded ops a.tmps) = false ∧ v = undef))
theorem Due.alike {o : Oper} {v : Value} {a a' : Act} (h : Due P ops S o v a) (e1 : execOp a'.eval o = execOp a.eval o) (e2 : Region.wanted o (yielded ops a'.tmps) = Region.wanted o (yielded ops a.tmps)) (e3 : ∀ w, o.about P w a'.eval = o.about P w a.eval) : Due P ops S o v a' :=
  ⟨fun w => (e3 w).trans (h.1 w), by rw [e1, e2]; exact h.2⟩
def AnyS (F : Fence) (n : Nat) (P : Program) (ops : Array Oper) (Q : Exit → Act → World → Prop) (S : World → Prop) : Nat → Array Bool → Act → World → Prop
  | 0, done, a, w => Region.ready .any ops done = [] ∧ Q .normal a w
  | k + 1, done, a, w => (Region.ready .any ops done = [] → Q .normal a w) ∧ ∀ i ∈ Region.ready .any ops done, wpOpIn F n P ops Q i (fun a' w' => S w' ∧ AnyS F n P ops Q S k (done.setIfInBounds i true) a' w') a w
theorem AnyS.any : ∀ (k : Nat) (done : Array Bool) (a : Act) (w : World), AnyS F n P ops Q S k done a w → wpAnyIn F n P .any ops Q k done a w
  | 0, _, _, _, h => h
  | k + 1, _, _, _, h => ⟨h.1, fun i hi => wpOpIn_mono (fun _ _ h => AnyS.any k _ _ _ h.2) (h.2 i hi)⟩
theorem Due.run {i : Nat} {o : Oper} {v : Value} {a : Act} {w : World} {K : Act → World → Prop} (hro : F.round = none) (hi : ops[i]? = some o) (h : Due P ops S o v a) (hS : S w) (hK : K (a.put o.dst v) w) : wpOpIn F n P ops Q i K a w := by
  have hab : ∀ f, o.about P w a.eval = some f → F.fn f := fun f hf => by rw [h.1 w] at hf; cases hf
  unfold wpOpIn
  simp only [hi]
  rcases h.2 with ⟨e, r⟩ | ⟨e, rfl⟩
  · rw [if_pos e]
    refine ⟨hab, ?_⟩
    rw [hro, Oper.semAt_none, r w hS]
    exact hK
  · rw [e]
    exact ⟨hab, hK⟩
theorem Due.beside {j : Nat} {oi oj : Oper} {v : Value} {K : Act → World → Prop} {a : Act} {w : World} (hro : F.round = none) (hj : ops[j]? = some oj) (hap : oi.apart ops oj = true) (si : ∀ cs b, oi.op ≠ .select cs b) (sj : ∀ cs b, oj.op ≠ .select cs b)
    (hQ : ∀ c a w, Q (.panic c) (a.put oi.dst v) w → Q (.panic c) a w) (h : Due P ops S oi v a) (hw : wpOpIn F n P ops Q j K (a.put oi.dst v) w) : wpOpIn F n P ops Q j (fun a' w' => Due P ops S oi v a' ∧ K (a'.put oi.dst v) w') a w := by
  obtain ⟨p1, p2, p3⟩ := Oper.apart_spec hap
  have put : ∀ (c : Act) (u : Value), Due P ops S oi v c → Due P ops S oi v (c.put oj.dst u) := fun c u hc => hc.alike (execOp_put oi si c oj.dst u p3) (wanted_put oi c oj.dst u p3) (fun w => about_put oi w c oj.dst u p3)
  have swap : ∀ (c : Act) (u : Value) (w' : World), K ((c.put oi.dst v).put oj.dst u) w' → K ((c.put oj.dst u).put oi.dst v) w' := fun c u w' hc => by rw [← Act.put_comm c v u p2]; exact hc
  unfold wpOpIn at hw ⊢
  simp only [hj] at hw ⊢
  rw [wanted_put oj a oi.dst v p1, about_put oj w a oi.dst v p1] at hw
  by_cases hwant : Region.wanted oj (yielded ops a.tmps) = true
  · rw [if_pos hwant] at hw ⊢
    unfold Oper.wpIn at hw ⊢
    rw [about_put oj w a oi.dst v p1, hro, Oper.semAt_none, execOp_put oj sj a oi.dst v p1] at hw
    rw [hro, Oper.semAt_none]
    refine ⟨hw.1, ?_⟩
    have hw2 := hw.2
    generalize (execOp a.eval oj).run P w = r at hw2 ⊢
    have fin : ∀ (e : Ending) (w' : World), (match e, w' with
        | .returned u, w'' => K ((a.put oi.dst v).put oj.dst u) w''
        | .panicked chain, w'' => Q (.panic chain) (a.put oi.dst v) w''
        | .outgrown, _ => LetsOut Q) → (match e, w' with
        | .returned u, w'' => Due P ops S oi v (a.put oj.dst u) ∧ K ((a.put oj.dst u).put oi.dst v) w''
        | .panicked chain, w'' => Q (.panic chain) a w''
        | .outgrown, _ => LetsOut Q) := fun e w' he => by
      cases e with
      | returned u => exact ⟨put a u h, swap a u w' he⟩
      | panicked c => exact hQ _ _ _ he
      | outgrown => exact he
    cases r with
    | halt x w' =>
      cases x <;> first
        | exact hw2.elim
        | exact hQ _ _ _ hw2
    | ok x w' =>
      cases x with
      | value u => exact ⟨put a u h, swap a u w' hw2⟩
      | skip => exact ⟨put a _ h, swap a _ w' hw2⟩
      | defer d =>
        have h' : Due P ops S oi v ({ a with defers := d :: a.defers } : Act) := h.alike rfl rfl (fun _ => rfl)
        refine ⟨put _ undef h', swap _ undef w' ?_⟩
        have e := Act.put_defers a oi.dst v d
        rw [← e]
        exact hw2
      | enter f args => exact ⟨hw2.1, hw2.2.mono fin⟩
      | row rw' args => exact ⟨hw2.1, hw2.2.mono fun u w'' he => ⟨put a u h, swap a u w'' he⟩⟩
      | round l f tmps assign body => exact ⟨hw2.1, hw2.2.mono fin⟩
      | _ => exact hw2.elim
  · rw [if_neg hwant] at hw ⊢
    exact ⟨hw.1, put a _ h, swap a _ w hw.2⟩
theorem AnyS.take {i : Nat} {oi : Oper} {v : Value} (hro : F.round = none) (hi : ops[i]? = some oi) (hs : Region.noSelect ops = true) (hQ : ∀ c a w, Q (.panic c) (a.put oi.dst v) w → Q (.panic c) a w) :
    ∀ (k : Nat) (done : Array Bool) (a : Act) (w : World), (∀ j oj, ops[j]? = some oj → j ≠ i → done.getD j true = false → (∀ e ∈ oj.after, Region.binds .any e = true → e.on ≠ i) → oi.apart ops oj = true) →
      i ∈ Region.ready .any ops done → Due P ops S oi v a → S w → AnyS F n P ops Q S k (done.setIfInBounds i true) (a.put oi.dst v) w → AnyS F n P ops Q S (k + 1) done a w
  | k, done, a, w, hfree, hr, hd, hS, H => by
    refine ⟨fun e => absurd hr (by rw [e]; exact List.not_mem_nil), fun j hj => ?_⟩
    by_cases hji : j = i
    · subst hji; exact hd.run hro hi hS ⟨hS, H⟩
    · have hj2 := ready_mono hj hji
      cases k with
      | zero => rw [H.1] at hj2; cases hj2
      | succ k =>
        obtain ⟨hun, oj, hoj, hall⟩ := mem_ready.1 hj
        have hi0 := (mem_ready.1 hr).1
        have hnot : ∀ e ∈ oj.after, Region.binds .any e = true → e.on ≠ i := fun e he hb e2 => by
          have h1 := hall e he hb
          rw [e2] at h1
          by_cases hlt : i < done.size
          · rw [Array.getD_eq_getD_getElem?, Array.getElem?_eq_getElem hlt] at h1 hi0
            simp only [Option.getD_some] at h1 hi0
            rw [h1] at hi0
            cases hi0
          · rw [Array.getD_eq_getD_getElem?, Array.getElem?_eq_none (by omega)] at hi0
            cases hi0
        have h2 := hd.beside hro hoj (hfree j oj hoj hji hun hnot) (Region.noSelect_spec hs i oi · · hi) (Region.noSelect_spec hs j oj · · hoj) hQ (H.2 j hj2)
        refine wpOpIn_mono (fun a' w' h3 => ⟨h3.2.1, AnyS.take hro hi hs hQ k (done.setIfInBounds j true) a' w' (fun x ox hx hxi hxu hno => ?_) (ready_mono hr (Ne.symm hji)) h3.1 h3.2.1 ?_⟩) h2
        · refine hfree x ox hx hxi ?_ hno
          by_cases hjx : j = x
          · subst hjx; exact hun
          · rwa [getD_set_ne true hjx] at hxu
        · rw [Array.setIfInBounds_comm _ _ hji]
          exact h3.2.2
theorem AnyS.first {i : Nat} {oi : Oper} {v : Value} {k : Nat} {done : Array Bool} {a : Act} {w : World} (hro : F.round = none) (hi : ops[i]? = some oi) (hs : Region.noSelect ops = true) (hf : Region.free .any ops done i = true) (hr : (Region.ready .any ops done).contains i = true)
    (hQ : ∀ c a w, Q (.panic c) (a.put oi.dst v) w → Q (.panic c) a w) (hd : Due P ops S oi v a) (hS : S w) (H : AnyS F n P ops Q S k (done.setIfInBounds i true) (a.put oi.dst v) w) : AnyS F n P ops Q S (k + 1) done a w :=
  AnyS.take hro hi hs hQ k done a w (Region.free_spec hi hf) (by simpa using hr) hd hS H
theorem AnyS.one {i : Nat} {o : Oper} {k : Nat} {done : Array Bool} {a : Act} {w : World} (hr : Region.ready .any ops done = [i]) (ho : ops[i]? = some o)
    (h : ∀ K : Act → World → Prop, (∀ a' w', S w' ∧ AnyS F n P ops Q S k (done.setIfInBounds i true) a' w' → K a' w') → if Region.wanted o (yielded ops a.tmps) = true then Oper.wpIn F n P o a w K Q else (∀ f, o.about P w a.eval = some f → F.fn f) ∧ K (a.put o.dst undef) w) : AnyS F n P ops Q S (k + 1) done a w :=
  ⟨fun e => (by rw [hr] at e; cases e), fun j hj => by
    rw [hr, List.mem_singleton] at hj
    subst hj
    exact wpOpIn_step ho (fun K' hK => h K' hK)⟩
theorem AnyS.done {done : Array Bool} {a : Act} {w : World} (hr : Region.ready .any ops done = []) (h : Q .normal a w) : ∀ k, AnyS F n P ops Q S k done a w
  | 0 => ⟨hr, h⟩
  | _ + 1 => ⟨fun _ => h, by rw [hr]; simp⟩
end
end Go.Proofs.YtghbbpbhbinioaaGreat

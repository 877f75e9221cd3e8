/- Several texts in one. -/
import Derived.Test.YtacoingheieceaaGreatMA33
/- Package hamt: lands that lack a part. -/
namespace Go.Proofs.YtacoingheieceaaGreat
set_option maxRecDepth 100000
open Go.RowKit
/-- A land, whether its parts are there or not. -/
abbrev lan (pa ph : Option Addr) : Value := .agg #[.pointer pa, .pointer ph]
/-- The way in a land that lacks a part. -/
abbrev nway (pa ph : Option Addr) (ow : Int) : Value := .agg #[.pointer pa, .pointer ph, .int .u32 ow, .int .u64 0, .int .i64 0, .slice none 0 0, .slice none 0 0, .slice none 0 0, .int .i64 0, .bool false]
theorem below_kp {w w1 w9 : World} {F : Nat → Prop} (hb : Below w.heap.size w w1) (hk : Kp F w1 w9) (hF : ∀ q, F q → w.heap.size ≤ q) : Below w.heap.size w w9 := by
  have h := (Kp.of_below hb (fun _ => False)).trans hk (fun q h => .inr (hF q h))
  exact ⟨h.os, h.tape, h.output, h.size, fun k hk => h.block k hk id⟩
section
theorem vlacks_no (pa ph : Option Addr) (h : pa = none ∨ ph = none) (w : World) : Calls Tryz.prog 74 #[lan pa ph] w fun e w' => e = .returned (.bool true) ∧ Below w.heap.size w w' := by
  have hb : Below w.heap.size w (w.alloc (.cells #[.pointer pa, .pointer ph] 30)) := (Below.refl _ w).alloc (Nat.le_refl _) _
  cases pa with
  | none =>
    go_enter Tryz.func74, Tryz.ntmps74
    go_wp2_with fail
    exact bodyPost_ret (v := .bool true) (by simp [results, Tryz.results74, go_sem]) rfl ⟨rfl, hb⟩
  | some a =>
    obtain rfl : ph = none := h.elim (fun e => by cases e) id
    have e1 : Sem.run Tryz.prog (binOp .eql 27 (.pointer (some a)) (.pointer none)) = fun W => .ok (.bool false) W := by funext W; kernel_rfl
    go_enter Tryz.func74, Tryz.ntmps74
    go_wp2_with fail
    exact bodyPost_ret (v := .bool true) (by simp [results, Tryz.results74, go_sem]) rfl ⟨rfl, hb⟩
set_option maxHeartbeats 1600000 in
theorem vwayTo_no (pa ph : Option Addr) (h : pa = none ∨ ph = none) (k : Ky) (ow : Int) (w : World) :
    Calls Tryz.prog 75 #[lan pa ph, .agg #[.int .i64 0, .int .i64 0], xagg k, .int .u32 ow] w fun e w' => e = .returned (nway pa ph ow) ∧ Below w.heap.size w w' := by
  obtain ⟨WS, hWS⟩ : ∃ WS, WS = (((((w.alloc (.cells #[.pointer pa, .pointer ph] 30)).alloc (.cells #[.int .i64 0, .int .i64 0] 33)).alloc (.cells #[.int .u8 k.1, .int .i64 k.2.1, .string k.2.2] 43)).alloc (.cells #[.pointer none, .pointer none, .int .u32 0, .int .u64 0, .int .i64 0, .slice none 0 0, .slice none 0 0, .slice none 0 0, .int .i64 0, .bool false] 138)).alloc (.cells #[.pointer pa, .pointer ph, .int .u32 ow, .int .u64 0, .int .i64 0, .slice none 0 0, .slice none 0 0, .slice none 0 0, .int .i64 0, .bool false] 138)) := ⟨_, rfl⟩
  have hb0 : Below w.heap.size w WS := by rw [hWS]; exact (((((Below.refl _ w).alloc (Nat.le_refl _) _).alloc (by simp) _).alloc (by simp; omega) _).alloc (by simp; omega) _).alloc (by simp; omega) _
  have q1 : C2 WS w.heap.size 30 (.pointer pa) (.pointer ph) := by rw [hWS]; exact ((((C2.new w 30 (.pointer pa) (.pointer ph)).alloc _).alloc _).alloc _).alloc _
  have q4 : ZW WS (w.heap.size + 1 + 1 + 1) := by
    have h := heap_alloc_new (((w.alloc (.cells #[.pointer pa, .pointer ph] 30)).alloc (.cells #[.int .i64 0, .int .i64 0] 33)).alloc (.cells #[.int .u8 k.1, .int .i64 k.2.1, .string k.2.2] 43)) (.cells #[.pointer none, .pointer none, .int .u32 0, .int .u64 0, .int .i64 0, .slice none 0 0, .slice none 0 0, .slice none 0 0, .int .i64 0, .bool false] 138)
    have h2 := (Below.heap_alloc _ (.cells #[.pointer pa, .pointer ph, .int .u32 ow, .int .u64 0, .int .i64 0, .slice none 0 0, .slice none 0 0, .slice none 0 0, .int .i64 0, .bool false] 138) _ (Array.getElem?_eq_some_iff.1 h).1).trans h
    rw [hWS]
    simpa [ZW] using h2
  have q5 : WS.heap[w.heap.size + 1 + 1 + 1 + 1]? = some (.cells #[.pointer pa, .pointer ph, .int .u32 ow, .int .u64 0, .int .i64 0, .slice none 0 0, .slice none 0 0, .slice none 0 0, .int .i64 0, .bool false] 138 (0, 0)) := by
    have h := heap_alloc_new ((((w.alloc (.cells #[.pointer pa, .pointer ph] 30)).alloc (.cells #[.int .i64 0, .int .i64 0] 33)).alloc (.cells #[.int .u8 k.1, .int .i64 k.2.1, .string k.2.2] 43)).alloc (.cells #[.pointer none, .pointer none, .int .u32 0, .int .u64 0, .int .i64 0, .slice none 0 0, .slice none 0 0, .slice none 0 0, .int .i64 0, .bool false] 138)) (.cells #[.pointer pa, .pointer ph, .int .u32 ow, .int .u64 0, .int .i64 0, .slice none 0 0, .slice none 0 0, .slice none 0 0, .int .i64 0, .bool false] 138)
    rw [hWS]
    simpa using h
  have HLK := Lib.hid (vlacks_no pa ph h)
  have HW0 := Lib.hid hWS
  have HB0 := Lib.hid hb0
  have HQ := Lib.hid (And.intro q4 q5)
  have x0 := q1.c0
  have x1 := q1.c1
  clear h hWS hb0 q1 q4 q5
  go_enter Tryz.func75, Tryz.ntmps75
  go_upto_region 2 with fail
  rw [← HW0.out]
  clear HW0
  go_wp2_with fail
  refine (HLK.out _).mono ?_
  rintro e w1 ⟨rfl, hb1⟩
  obtain ⟨q4, q5⟩ := HQ.out
  have q4 := q4.kp (Kp.of_below hb1 (fun _ => False)) id
  have q5 := (hb1.block _ (Array.getElem?_eq_some_iff.1 q5).1).trans q5
  have HB1 := Lib.hid (HB0.out.trans (hb1.mono HB0.out.size))
  have m0 : w1.cell? ⟨w.heap.size + 1 + 1 + 1 + 1, 0, none⟩ = some (.pointer pa) := by simpa using cell_of_row w1 _ 0 _ _ (0, 0) q5
  have m1 : w1.cell? ⟨w.heap.size + 1 + 1 + 1 + 1, 1, none⟩ = some (.pointer ph) := by simpa using cell_of_row w1 _ 1 _ _ (0, 0) q5
  have m2 : w1.cell? ⟨w.heap.size + 1 + 1 + 1 + 1, 2, none⟩ = some (.int .u32 ow) := by simpa using cell_of_row w1 _ 2 _ _ (0, 0) q5
  have m3 : w1.cell? ⟨w.heap.size + 1 + 1 + 1 + 1, 3, none⟩ = some (.int .u64 0) := by simpa using cell_of_row w1 _ 3 _ _ (0, 0) q5
  have m4 : w1.cell? ⟨w.heap.size + 1 + 1 + 1 + 1, 4, none⟩ = some (.int .i64 0) := by simpa using cell_of_row w1 _ 4 _ _ (0, 0) q5
  have m5 : w1.cell? ⟨w.heap.size + 1 + 1 + 1 + 1, 5, none⟩ = some (.slice none 0 0) := by simpa using cell_of_row w1 _ 5 _ _ (0, 0) q5
  have m6 : w1.cell? ⟨w.heap.size + 1 + 1 + 1 + 1, 6, none⟩ = some (.slice none 0 0) := by simpa using cell_of_row w1 _ 6 _ _ (0, 0) q5
  have m7 : w1.cell? ⟨w.heap.size + 1 + 1 + 1 + 1, 7, none⟩ = some (.slice none 0 0) := by simpa using cell_of_row w1 _ 7 _ _ (0, 0) q5
  have m8 : w1.cell? ⟨w.heap.size + 1 + 1 + 1 + 1, 8, none⟩ = some (.int .i64 0) := by simpa using cell_of_row w1 _ 8 _ _ (0, 0) q5
  have m9 : w1.cell? ⟨w.heap.size + 1 + 1 + 1 + 1, 9, none⟩ = some (.bool false) := by simpa using cell_of_row w1 _ 9 _ _ (0, 0) q5
  have FIN := Lib.hid (fun w9 (h9 : Kp (fun q => q = w.heap.size + 1 + 1 + 1) w1 w9) => (show Below w.heap.size w w9 from below_kp HB1.out h9 (fun q e => by omega)))
  obtain ⟨f0, f1, f2, f3, f4, f5, f6, f7, f8, f9⟩ := q4.fzs
  obtain ⟨c0, c1, c2, c3, c4', c5', c6', c7, c8, c9⟩ := q4.all
  clear hb1 q4 q5 x0 x1 HQ HLK
  go_wp2_with fail
  refine bodyPost_ret (v := nway pa ph ow) (by simp [results, Tryz.results75, go_sem, c0, c1, c2, c3, c4', c5', c6', c7, c8, c9]) rfl ⟨rfl, FIN.out _ ?_⟩
  repeat first
    | with_reducible exact Kp.refl _ _
    | with_reducible refine Kp.setCell ?_ (by simp) _
theorem vPut_no (pa ph : Option Addr) (h : pa = none ∨ ph = none) (k v : Ky) (ow : Int) (w : World) :
    Calls Tryz.prog 18 #[lan pa ph, .agg #[.int .i64 0, .int .i64 0], xagg k, xagg v, .int .u32 ow] w fun e w' => e = .returned (.tuple #[.agg #[.int .i64 0, .int .i64 0], .int .i64 1]) ∧ Below w.heap.size w w' := by
  obtain ⟨W0, hW0⟩ : ∃ W0, W0 = (((((w.alloc (.cells #[.pointer pa, .pointer ph] 30)).alloc (.cells #[.int .i64 0, .int .i64 0] 33)).alloc (.cells #[.int .u8 k.1, .int .i64 k.2.1, .string k.2.2] 43)).alloc (.cells #[.int .u8 v.1, .int .i64 v.2.1, .string v.2.2] 43)).alloc (.cells #[.int .i64 0, .int .i64 0] 33)) := ⟨_, rfl⟩
  have hb0 : Below w.heap.size w W0 := by rw [hW0]; exact (((((Below.refl _ w).alloc (Nat.le_refl _) _).alloc (by simp) _).alloc (by simp; omega) _).alloc (by simp; omega) _).alloc (by simp; omega) _
  have q1 : C2 W0 w.heap.size 30 (.pointer pa) (.pointer ph) := by rw [hW0]; exact ((((C2.new w 30 (.pointer pa) (.pointer ph)).alloc _).alloc _).alloc _).alloc _
  have q10 : C2 W0 (w.heap.size + 1 + 1 + 1 + 1) 33 (.int .i64 0) (.int .i64 0) := by
    have h := C2.new ((((w.alloc (.cells #[.pointer pa, .pointer ph] 30)).alloc (.cells #[.int .i64 0, .int .i64 0] 33)).alloc (.cells #[.int .u8 k.1, .int .i64 k.2.1, .string k.2.2] 43)).alloc (.cells #[.int .u8 v.1, .int .i64 v.2.1, .string v.2.2] 43)) 33 (.int .i64 0) (.int .i64 0)
    rw [hW0]
    simpa using h
  have HLK := Lib.hid (vlacks_no pa ph h)
  have HW0 := Lib.hid hW0
  have HB0 := Lib.hid hb0
  have HQ := Lib.hid q10
  have x0 := q1.c0
  have x1 := q1.c1
  clear h hW0 hb0 q1 q10
  go_enter Tryz.func18, Tryz.ntmps18
  go_upto_region 1 with fail
  rw [← HW0.out]
  clear HW0
  go_wp2_with fail
  refine (HLK.out _).mono ?_
  rintro e w1 ⟨rfl, hb1⟩
  have HB1 := Lib.hid (HB0.out.trans (hb1.mono HB0.out.size))
  obtain ⟨r0, r1, g0, g1⟩ := (HQ.out.below hb1).all
  have FIN := Lib.hid (fun w9 (h9 : Kp (fun q => q = w.heap.size + 1 + 1 + 1 + 1) w1 w9) => (show Below w.heap.size w w9 from below_kp HB1.out h9 (fun q e => by omega)))
  clear hb1 x0 x1 HQ HLK
  go_wp2_with fail
  refine bodyPost_ret (v := .tuple #[.agg #[.int .i64 0, .int .i64 0], .int .i64 1]) (by simp [results, Tryz.results18, go_sem, r0, r1]) rfl ⟨rfl, FIN.out _ ?_⟩
  repeat first
    | with_reducible exact Kp.refl _ _
    | with_reducible refine Kp.setCell ?_ (by simp) _
theorem vTake_no (pa ph : Option Addr) (h : pa = none ∨ ph = none) (k : Ky) (ow : Int) (w : World) :
    Calls Tryz.prog 21 #[lan pa ph, .agg #[.int .i64 0, .int .i64 0], xagg k, .int .u32 ow] w fun e w' => e = .returned (.tuple #[.agg #[.int .i64 0, .int .i64 0], .int .i64 4]) ∧ Below w.heap.size w w' := by
  obtain ⟨W0, hW0⟩ : ∃ W0, W0 = ((((w.alloc (.cells #[.pointer pa, .pointer ph] 30)).alloc (.cells #[.int .i64 0, .int .i64 0] 33)).alloc (.cells #[.int .u8 k.1, .int .i64 k.2.1, .string k.2.2] 43)).alloc (.cells #[.int .i64 0, .int .i64 0] 33)) := ⟨_, rfl⟩
  have hb0 : Below w.heap.size w W0 := by rw [hW0]; exact ((((Below.refl _ w).alloc (Nat.le_refl _) _).alloc (by simp) _).alloc (by simp; omega) _).alloc (by simp; omega) _
  have hsz : W0.heap.size = w.heap.size + 4 := by rw [hW0]; simp
  have q1 : C2 W0 w.heap.size 30 (.pointer pa) (.pointer ph) := by rw [hW0]; exact (((C2.new w 30 (.pointer pa) (.pointer ph)).alloc _).alloc _).alloc _
  have q2 : C2 W0 (w.heap.size + 1) 33 (.int .i64 0) (.int .i64 0) := by
    have h := ((C2.new (w.alloc (.cells #[.pointer pa, .pointer ph] 30)) 33 (.int .i64 0) (.int .i64 0)).alloc (.cells #[.int .u8 k.1, .int .i64 k.2.1, .string k.2.2] 43)).alloc (.cells #[.int .i64 0, .int .i64 0] 33)
    rw [hW0]
    simpa using h
  have q3 : C3 W0 (w.heap.size + 1 + 1) 43 (.int .u8 k.1) (.int .i64 k.2.1) (.string k.2.2) := by
    have h := (C3.new ((w.alloc (.cells #[.pointer pa, .pointer ph] 30)).alloc (.cells #[.int .i64 0, .int .i64 0] 33)) 43 (.int .u8 k.1) (.int .i64 k.2.1) (.string k.2.2)).alloc (.cells #[.int .i64 0, .int .i64 0] 33)
    rw [hW0]
    simpa using h
  have q10 : C2 W0 (w.heap.size + 1 + 1 + 1) 33 (.int .i64 0) (.int .i64 0) := by
    have h := C2.new (((w.alloc (.cells #[.pointer pa, .pointer ph] 30)).alloc (.cells #[.int .i64 0, .int .i64 0] 33)).alloc (.cells #[.int .u8 k.1, .int .i64 k.2.1, .string k.2.2] 43)) 33 (.int .i64 0) (.int .i64 0)
    rw [hW0]
    simpa using h
  have HWT := Lib.hid (vwayTo_no pa ph h k ow)
  have HW0 := Lib.hid hW0
  have HB0 := Lib.hid hb0
  have HQ := Lib.hid (And.intro q10 hsz)
  have x0 := q1.c0
  have x1 := q1.c1
  have x2 := q2.c0
  have x3 := q2.c1
  obtain ⟨k0, k1, k2, _⟩ := q3.all
  clear h hW0 hb0 q1 q2 q3 q10 hsz
  go_enter Tryz.func21, Tryz.ntmps21
  go_upto_region 1 with fail
  rw [← HW0.out]
  clear HW0
  go_wp2_with fail
  refine (HWT.out _).mono ?_
  rintro e w1 ⟨rfl, hb1⟩
  have HB1 := Lib.hid (HB0.out.trans (hb1.mono HB0.out.size))
  have hs1 := hb1.size
  have q10 := HQ.out.1.below hb1
  have hq10 := q10.lt
  clear hb1 x0 x1 x2 x3 k0 k1 k2 HWT
  go_upto_region 2 with fail
  have hb2 : Below w.heap.size w (w1.alloc (.cells #[.pointer pa, .pointer ph, .int .u32 ow, .int .u64 0, .int .i64 0, .slice none 0 0, .slice none 0 0, .slice none 0 0, .int .i64 0, .bool false] 138)) := HB1.out.alloc HB1.out.size _
  have q5 := heap_alloc_new w1 (.cells #[.pointer pa, .pointer ph, .int .u32 ow, .int .u64 0, .int .i64 0, .slice none 0 0, .slice none 0 0, .slice none 0 0, .int .i64 0, .bool false] 138)
  have q10 := q10.alloc (.cells #[.pointer pa, .pointer ph, .int .u32 ow, .int .u64 0, .int .i64 0, .slice none 0 0, .slice none 0 0, .slice none 0 0, .int .i64 0, .bool false] 138)
  generalize w1.alloc (.cells #[.pointer pa, .pointer ph, .int .u32 ow, .int .u64 0, .int .i64 0, .slice none 0 0, .slice none 0 0, .slice none 0 0, .int .i64 0, .bool false] 138) = w2 at hb2 q5 q10 ⊢
  generalize w1.heap.size = z10 at q5 ⊢
  have m9 : w2.cell? ⟨z10, 9, none⟩ = some (.bool false) := by simpa using cell_of_row w2 _ 9 _ _ (0, 0) q5
  obtain ⟨r0, r1, g0, g1⟩ := q10.all
  have FIN := Lib.hid (fun w9 (h9 : Kp (fun q => q = w.heap.size + 1 + 1 + 1) w2 w9) => (show Below w.heap.size w w9 from below_kp hb2 h9 (fun q e => by omega)))
  clear hb2 q5 q10 hs1 hq10
  go_wp2_with fail
  refine bodyPost_ret (v := .tuple #[.agg #[.int .i64 0, .int .i64 0], .int .i64 4]) (by simp [results, Tryz.results21, go_sem, r0, r1]) rfl ⟨rfl, FIN.out _ ?_⟩
  repeat first
    | with_reducible exact Kp.refl _ _
    | with_reducible refine Kp.setCell ?_ (by simp) _
theorem vLook_no (pa ph : Option Addr) (h : pa = none ∨ ph = none) (k : Ky) (w : World) :
    Calls Tryz.prog 22 #[lan pa ph, .agg #[.int .i64 0, .int .i64 0], xagg k] w fun e w' => e = .returned (.tuple #[xagg noV, .bool false]) ∧ Below w.heap.size w w' := by
  obtain ⟨W0, hW0⟩ : ∃ W0, W0 = ((((w.alloc (.cells #[.pointer pa, .pointer ph] 30)).alloc (.cells #[.int .i64 0, .int .i64 0] 33)).alloc (.cells #[.int .u8 k.1, .int .i64 k.2.1, .string k.2.2] 43)).alloc (.cells #[.int .u8 0, .int .i64 0, .string ⟨#[]⟩] 43)) := ⟨_, rfl⟩
  have hb0 : Below w.heap.size w W0 := by rw [hW0]; exact ((((Below.refl _ w).alloc (Nat.le_refl _) _).alloc (by simp) _).alloc (by simp; omega) _).alloc (by simp; omega) _
  have q1 : C2 W0 w.heap.size 30 (.pointer pa) (.pointer ph) := by rw [hW0]; exact (((C2.new w 30 (.pointer pa) (.pointer ph)).alloc _).alloc _).alloc _
  have q2 : C2 W0 (w.heap.size + 1) 33 (.int .i64 0) (.int .i64 0) := by
    have h := ((C2.new (w.alloc (.cells #[.pointer pa, .pointer ph] 30)) 33 (.int .i64 0) (.int .i64 0)).alloc (.cells #[.int .u8 k.1, .int .i64 k.2.1, .string k.2.2] 43)).alloc (.cells #[.int .u8 0, .int .i64 0, .string ⟨#[]⟩] 43)
    rw [hW0]
    simpa using h
  have q3 : C3 W0 (w.heap.size + 1 + 1) 43 (.int .u8 k.1) (.int .i64 k.2.1) (.string k.2.2) := by
    have h := (C3.new ((w.alloc (.cells #[.pointer pa, .pointer ph] 30)).alloc (.cells #[.int .i64 0, .int .i64 0] 33)) 43 (.int .u8 k.1) (.int .i64 k.2.1) (.string k.2.2)).alloc (.cells #[.int .u8 0, .int .i64 0, .string ⟨#[]⟩] 43)
    rw [hW0]
    simpa using h
  have q10 : C3 W0 (w.heap.size + 1 + 1 + 1) 43 (.int .u8 0) (.int .i64 0) (.string ⟨#[]⟩) := by
    have h := C3.new (((w.alloc (.cells #[.pointer pa, .pointer ph] 30)).alloc (.cells #[.int .i64 0, .int .i64 0] 33)).alloc (.cells #[.int .u8 k.1, .int .i64 k.2.1, .string k.2.2] 43)) 43 (.int .u8 0) (.int .i64 0) (.string ⟨#[]⟩)
    rw [hW0]
    simpa using h
  have HWT := Lib.hid (vwayTo_no pa ph h k 0)
  have HW0 := Lib.hid hW0
  have HB0 := Lib.hid hb0
  have HQ := Lib.hid q10
  have x0 := q1.c0
  have x1 := q1.c1
  have x2 := q2.c0
  have x3 := q2.c1
  obtain ⟨k0, k1, k2, _⟩ := q3.all
  clear h hW0 hb0 q1 q2 q3 q10
  go_enter Tryz.func22, Tryz.ntmps22
  go_upto_region 1 with fail
  rw [← HW0.out]
  clear HW0
  go_wp2_with fail
  refine (HWT.out _).mono ?_
  rintro e w1 ⟨rfl, hb1⟩
  have HB1 := Lib.hid (HB0.out.trans (hb1.mono HB0.out.size))
  have q10 := HQ.out.below hb1
  clear hb1 x0 x1 x2 x3 k0 k1 k2 HWT
  go_upto_region 2 with fail
  have hb2 : Below w.heap.size w (w1.alloc (.cells #[.pointer pa, .pointer ph, .int .u32 0, .int .u64 0, .int .i64 0, .slice none 0 0, .slice none 0 0, .slice none 0 0, .int .i64 0, .bool false] 138)) := HB1.out.alloc HB1.out.size _
  have q5 := heap_alloc_new w1 (.cells #[.pointer pa, .pointer ph, .int .u32 0, .int .u64 0, .int .i64 0, .slice none 0 0, .slice none 0 0, .slice none 0 0, .int .i64 0, .bool false] 138)
  have q10 := q10.alloc (.cells #[.pointer pa, .pointer ph, .int .u32 0, .int .u64 0, .int .i64 0, .slice none 0 0, .slice none 0 0, .slice none 0 0, .int .i64 0, .bool false] 138)
  generalize w1.alloc (.cells #[.pointer pa, .pointer ph, .int .u32 0, .int .u64 0, .int .i64 0, .slice none 0 0, .slice none 0 0, .slice none 0 0, .int .i64 0, .bool false] 138) = w2 at hb2 q5 q10 ⊢
  generalize w1.heap.size = z10 at q5 ⊢
  have m9 : w2.cell? ⟨z10, 9, none⟩ = some (.bool false) := by simpa using cell_of_row w2 _ 9 _ _ (0, 0) q5
  obtain ⟨r0, r1, r2, g0, g1, g2⟩ := q10.all
  have FIN := Lib.hid (fun w9 (h9 : Kp (fun q => q = w.heap.size + 1 + 1 + 1) w2 w9) => (show Below w.heap.size w w9 from below_kp hb2 h9 (fun q e => by omega)))
  clear hb2 q5 q10
  go_wp2_with fail
  refine bodyPost_ret (v := .tuple #[xagg noV, .bool false]) (by simp [results, Tryz.results22, go_sem, r0, r1, r2, noV]) rfl ⟨rfl, FIN.out _ ?_⟩
  repeat first
    | with_reducible exact Kp.refl _ _
    | with_reducible refine Kp.setCell ?_ (by simp) _
end
end Go.Proofs.YtacoingheieceaaGreat

/- Package hamt: a land without an arena has no pairs. -/
namespace Go.Proofs.YtacoingheieceaaGreat
set_option maxRecDepth 100000
open Go.RowKit
section
set_option maxHeartbeats 1600000 in
theorem vbelow_nil (ph : Option Addr) (i lv : Int) (w : World) :
    Calls Tryz.prog 103 #[lan none ph, .int .i64 i, .int .i64 lv] w fun e w' => e = .returned (.tuple #[cagg 0 0 0 (.slice none 0 0) (.slice none 0 0), .bool false]) ∧ Below w.heap.size w w' := by
  have hb1 : Below w.heap.size w ((w.alloc (.cells #[.pointer none, .pointer ph] 30)).alloc (.cells #[.int .u32 0, .int .u32 0, .int .u32 0, .slice none 0 0, .slice none 0 0] 170)) := ((Below.refl w.heap.size w).alloc (Nat.le_refl _) _).alloc (by simp) _
  have e1 : (w.alloc (.cells #[.pointer none, .pointer ph] 30)).heap.size = w.heap.size + 1 := by simp
  have q1 := (C2.new w 30 (.pointer none) (.pointer ph)).alloc (.cells #[.int .u32 0, .int .u32 0, .int .u32 0, .slice none 0 0, .slice none 0 0] 170)
  have q2 := C5.new (w.alloc (.cells #[.pointer none, .pointer ph] 30)) 170 (.int .u32 0) (.int .u32 0) (.int .u32 0) (.slice none 0 0) (.slice none 0 0)
  rw [e1] at q2
  have HB := Lib.hid hb1
  clear hb1 e1
  go_enter Tryz.func103, Tryz.ntmps103
  go_upto_region 1 with fail
  generalize (w.alloc (.cells #[.pointer none, .pointer ph] 30)).alloc (.cells #[.int .u32 0, .int .u32 0, .int .u32 0, .slice none 0 0, .slice none 0 0] 170) = w1 at q1 q2 HB ⊢
  obtain ⟨z, hz⟩ : ∃ z, z = w.heap.size := ⟨_, rfl⟩
  rw [← hz] at q1 q2 ⊢
  have HZ := Lib.hid hz
  have HQ2 := Lib.hid q2
  obtain ⟨k0, k1, _⟩ := q1.all
  clear q1 q2 hz
  go_wp2_with fail
  refine (get_nil i w1).mono ?_
  rintro e w2 ⟨rfl, hb2⟩
  have HB2 := Lib.hid hb2
  have q3 := HQ2.out.below hb2
  have hzl := q3.lt
  clear hb2 k0 k1
  go_upto_region 2 with fail
  obtain ⟨w3, hw3⟩ : ∃ w3, w3 = w2.alloc (.cells #[.int .u32 0, .int .u32 0, .int .u32 0, .slice none 0 0, .slice none 0 0] 170) := ⟨_, rfl⟩
  have hb3 : Below w2.heap.size w2 w3 := by rw [hw3]; exact (Below.refl _ w2).alloc (Nat.le_refl _) _
  have HB3 := Lib.hid hb3
  obtain ⟨r0, r1, r2, r3, r4, f0, f1, f2, f3, f4⟩ := (q3.below hb3).all
  have HW3 := Lib.hid hw3
  clear q3 hzl hw3 hb3
  rw [← HW3.out]
  go_wp2_with fail
  have fin : ∀ W9, Kp (fun q => q = z + 1) w3 W9 → Below w.heap.size w W9 := fun W9 h9 => by
    refine (((Kp.of_below HB.out (fun _ => False)).trans (Kp.of_below HB2.out (fun _ => False)) (fun _ h => h.elim)).trans ((Kp.of_below HB3.out (fun q => q = z + 1)).trans h9 (fun q h => .inl h)) (fun q e => .inr ?_)).below (fun _ h => h.elim)
    have := HZ.out
    omega
  refine bodyPost_ret (v := .tuple #[cagg 0 0 0 (.slice none 0 0) (.slice none 0 0), .bool false]) (by simp [results, Tryz.results103, go_sem, r0, r1, r2, r3, r4]) rfl ⟨rfl, fin _ ?_⟩
  repeat first
    | with_reducible exact Kp.refl _ _
    | with_reducible refine Kp.setCell ?_ (by simp) _
set_option maxHeartbeats 1600000 in
theorem vvisit_nil (lp : Nat) (ph : Option Addr) (i lev : Int) (A : World) :
    Calls Tryz.prog 78 #[lan none ph, .int .i64 i, .int .i64 lev, .func (.yield lp) #[] #[]] A fun e B => e = .returned (.bool true) ∧ Below A.heap.size A B := by
  have hbox : Below A.heap.size A (A.alloc (.cells #[.pointer none, .pointer ph] 30)) := (Below.refl _ A).alloc (Nat.le_refl _) _
  have q4 := C2.new A 30 (.pointer none) (.pointer ph)
  have HBE := Lib.hid (vbelow_nil ph i lev (A.alloc (.cells #[.pointer none, .pointer ph] 30)))
  have x0 := q4.c0
  have x1 := q4.c1
  have HB := Lib.hid hbox
  clear hbox q4
  refine (callsIn_wide (n := 1)).1 ?_
  refine callsIn_of_wp Tryz.func78 rfl trivial ?_ rfl
  simp only [Tryz.ntmps78, List.size_toArray, List.length_cons, List.length_nil, Nat.reduceAdd, Nat.reduceSub, Array.replicate_succ, Array.replicate_zero, List.push_toArray, List.append_toArray, List.nil_append, List.cons_append]
  gi_wp2
  refine ⟨trivial, (callsIn_wide.2 HBE.out).mono ?_⟩
  rintro e w2 ⟨rfl, hb2⟩
  have hb3 := (HB.out.trans (hb2.mono HB.out.size)).alloc (Nat.le_trans HB.out.size hb2.size) (.cells #[.int .u32 0, .int .u32 0, .int .u32 0, .slice none 0 0, .slice none 0 0] 170)
  have q9 := C5.new w2 170 (.int .u32 0) (.int .u32 0) (.int .u32 0) (.slice none 0 0) (.slice none 0 0)
  have HB2 := Lib.hid hb2
  clear hb2 x0 x1
  gi_wp2
  generalize w2.alloc (.cells #[.int .u32 0, .int .u32 0, .int .u32 0, .slice none 0 0, .slice none 0 0] 170) = w3 at *
  generalize w2.heap.size = z9 at *
  have HB3 := Lib.hid hb3
  obtain ⟨x0, x1, x2, x3, x4, f0, f1, f2, f3, f4⟩ := q9.all
  clear hb3 q9 HB2 HBE
  gi_loopw [11] (fun s wr => s = .int .i64 0 ∧ wr = w3) (fun _ _ => 0)
  case atStart => exact ⟨rfl, rfl⟩
  case round =>
    obtain ⟨rfl, rfl⟩ := hrel
    gi_wp2
    gi_loopw [47] (fun s wr' => s = .int .i64 0 ∧ wr' = wr) (fun _ _ => 0)
    case atStart => exact ⟨rfl, rfl⟩
    case round =>
      obtain ⟨rfl, rfl⟩ := hrel
      gi_wp2
      exact bodyPost_ret (v := .bool true) (by simp [results, Tryz.results78, go_sem]) rfl ⟨rfl, HB3.out⟩
/-- Pairs, whatever the land is. -/
theorem vPairs_no (pa ph : Option Addr) (w : World) :
    Calls Tryz.prog 20 #[lan pa ph, .agg #[.int .i64 0, .int .i64 0]] w fun e w' => ∃ zl zm, e = .returned (seqv zl zm) ∧ C2 w' zl 30 (.pointer pa) (.pointer ph) ∧ C2 w' zm 33 (.int .i64 0) (.int .i64 0) ∧ Below w.heap.size w w' := by
  have hb : Below w.heap.size w ((w.alloc (.cells #[.pointer pa, .pointer ph] 30)).alloc (.cells #[.int .i64 0, .int .i64 0] 33)) := ((Below.refl _ w).alloc (Nat.le_refl _) _).alloc (by simp) _
  have e1 : (w.alloc (.cells #[.pointer pa, .pointer ph] 30)).heap.size = w.heap.size + 1 := by simp
  have q1 := (C2.new w 30 (.pointer pa) (.pointer ph)).alloc (.cells #[.int .i64 0, .int .i64 0] 33)
  have q2 := C2.new (w.alloc (.cells #[.pointer pa, .pointer ph] 30)) 33 (.int .i64 0) (.int .i64 0)
  rw [e1] at q2
  have HX := Lib.hid (And.intro q1 (And.intro q2 hb))
  clear hb e1 q1 q2
  go_enter Tryz.func20, Tryz.ntmps20
  go_wp2_with fail
  exact bodyPost_ret (v := seqv w.heap.size (w.heap.size + 1)) (by simp [results, Tryz.results20, go_sem]) rfl ⟨_, _, rfl, HX.out⟩
theorem pairs_nil (zl zm : Nat) (ph : Option Addr) (Kk : World → World → Prop) (w : World) (q1 : C2 w zl 30 (.pointer none) (.pointer ph)) (q2 : C2 w zm 33 (.int .i64 0) (.int .i64 0)) :
    Gives8 Tryz.prog 77 (fun v => #[] ++ #[v] ++ #[.pointer (some ⟨zl, 0, none⟩), .pointer (some ⟨zm, 0, none⟩)]) (fun p : Pr => #[pagg p]) Kk [] w := by
  intro lp J Jx W hW hJ hJx hY h0
  have hnil : ∀ W : World, Sem.run Tryz.prog (binOp .neq 142 (.func (.yield lp) #[] #[]) .nilFunc) W = .ok (.bool true) W := fun _ => by kernel_rfl
  have HV := Lib.hid (vvisit_nil lp ph 0 (-1) W)
  have x0 := (q1.below hW).c0
  have x1 := (q1.below hW).c1
  have y1 := (q2.below hW).c1
  have HJ := Lib.hid (fun B (hb : Below W.heap.size W B) => hJ _ _ _ h0 hb)
  clear q1 q2 hJ hJx hY h0
  refine (callsIn_wide (n := 1)).1 ?_
  refine callsIn_of_wp Tryz.func77 rfl trivial ?_ rfl
  simp only [Tryz.ntmps77, List.size_toArray, List.length_cons, List.length_nil, Nat.reduceAdd, Nat.reduceSub, Array.replicate_succ, Array.replicate_zero, List.push_toArray, List.append_toArray, List.nil_append, List.cons_append]
  gi_wp2
  refine ⟨trivial, (callsIn_wide.2 HV.out).mono ?_⟩
  rintro e w' ⟨rfl, hb⟩
  have H1 := Lib.hid (HJ.out w' hb)
  clear hb x0 x1 y1
  gi_wp2
  go_end0
  exact ⟨⟨_, rfl⟩, .inl H1.out⟩
set_option maxHeartbeats 1600000 in
/-- Nothing is gathered where nothing comes. -/
theorem vappend_none (zl zm : Nat) (w : World) (hg : ∀ W, Below w.heap.size w W → Gives8 Tryz.prog 77 (fun v => #[] ++ #[v] ++ #[.pointer (some ⟨zl, 0, none⟩), .pointer (some ⟨zm, 0, none⟩)]) (fun p : Pr => #[pagg p]) (fun _ _ => True) [] W) :
    Calls Tryz.prog 80 #[.slice none 0 0, seqv zl zm] w fun e w' => e = .returned (.slice none 0 0) ∧ Below w.heap.size w w' := by
  have hb : Below w.heap.size w (w.alloc (.cells #[.slice none 0 0] 61)) := (Below.refl _ w).alloc (Nat.le_refl _) _
  have q2 := C1.new w 61 (.slice none 0 0)
  have HG := Lib.hid (hg _ hb)
  have HX := Lib.hid (And.intro q2 hb)
  clear hg hb q2
  refine (callsIn_wide (n := 3)).1 ?_
  refine callsIn_of_wp_marks Tryz.func80 rfl trivial ?_ rfl
  refine wpIn_wide.2 ?_
  simp only [Tryz.ntmps80, List.size_toArray, List.length_cons, List.length_nil, Nat.reduceAdd, Nat.reduceSub, Array.replicate_succ, Array.replicate_zero, List.push_toArray, List.append_toArray, List.nil_append, List.cons_append]
  go_wp2_with fail
  have hsz : (w.alloc (.cells #[.slice none 0 0] 61)).heap.size = w.heap.size + 1 := by simp
  refine wp_range8 (encs := fun p : Pr => #[pagg p]) (first := #[]) (last := #[.pointer (some ⟨zl, 0, none⟩), .pointer (some ⟨zm, 0, none⟩)]) (f := 77) rfl (fun _ _ => rfl) (fun _ => rfl) HG.out (fun _ _ => trivial) (fun _ _ _ _ _ _ _ _ => trivial)
    (fun _ W => C1 W w.heap.size 61 (.slice none 0 0) ∧ Below w.heap.size w W) (fun _ _ _ => False) ?_ (fun c _ _ _ _ h => h.elim) HX.out ?_ ?_ (fun _ _ _ _ _ _ h => h.elim)
  · intro _ W W' row h hg hr
    exact ⟨h.1.own hg hr, below_own_from h.2 (by rw [hsz]; omega) hg hr⟩
  · intro l i x W hx
    cases hx
  · intro D W hD hI hdef
    have hlo : w.heap.size < D := by rw [hsz] at hD; omega
    have hq := (hI.1.kp (kp_putObj (x := D) (o := .deferred none)) (by omega))
    have HE := Lib.hid (And.intro hdef (show Below w.heap.size w (W.putObj D (.deferred none)) from below_kp hI.2 (kp_putObj (x := D)) (fun q e => by omega)))
    have r0 := hI.1.c0
    clear hI hdef hD hq
    go_wp2_with fail
    refine ⟨by simp, .inl ⟨_, _, rfl, run_takeDeferred HE.out.1, ?_⟩⟩
    exact ⟨_, by simp [results, Tryz.results80, go_sem], rfl, HE.out.2⟩
/-- A land without an arena: its pairs, gathered. -/
theorem vcollect_none (zl zm : Nat) (w : World) (hg : ∀ W, Below w.heap.size w W → Gives8 Tryz.prog 77 (fun v => #[] ++ #[v] ++ #[.pointer (some ⟨zl, 0, none⟩), .pointer (some ⟨zm, 0, none⟩)]) (fun p : Pr => #[pagg p]) (fun _ _ => True) [] W) :
    Calls Tryz.prog 23 #[seqv zl zm] w fun e w' => e = .returned (.slice none 0 0) ∧ Below w.heap.size w w' := by
  have HA := Lib.hid (vappend_none zl zm w hg)
  clear hg
  go_enter Tryz.func23, Tryz.ntmps23
  go_wp2_with fail
  refine HA.out.mono ?_
  rintro e w' ⟨rfl, hb⟩
  have HB := Lib.hid hb
  clear hb
  go_wp2_with fail
  exact bodyPost_ret (v := .slice none 0 0) (by simp [results, Tryz.results23, go_sem]) rfl ⟨rfl, HB.out⟩
end
end Go.Proofs.YtacoingheieceaaGreat

/- The law of layer 8: a land of one's own, and what stands between its calls. -/
namespace Go.Proofs.YtacoingheieceaaGreat
set_option maxRecDepth 100000
open Go.RowKit
theorem lnumber (n : Int) (w : World) : Calls Tryz.prog 19 #[.int .i64 n] w fun e w' => e = .returned (xagg (2, n, ⟨#[]⟩)) ∧ Below w.heap.size w w' := by
  go_enter Tryz.func19, Tryz.ntmps19
  go_wp2
  exact bodyPost_ret (v := xagg (2, n, ⟨#[]⟩)) (by simp [results, Tryz.results19, go_sem]) rfl ⟨rfl, (Below.refl _ _).alloc (Nat.le_refl _) _⟩
theorem bk0 (most : Nat) : Bk (most + 1) (fun _ => none) [] (fun _ => 0) [0] := by
  have hocc : ∀ i, occ (most + 1) (fun _ => none) i = 0 := fun i => sumTo_zero fun _ _ => by simp [kd]
  refine ⟨?_, fun h hh => by simp at hh, fun j => by simp [kd]⟩
  rw [blank_nil]
  refine ⟨rfl, fun _ _ => rfl, fun _ h => absurd rfl h, fun i hi => ?_, ⟨fun _ => 0, fun j k hk => by simp [kd] at hk⟩⟩
  rw [hocc]
  have : ¬ 0 = i := by omega
  simp [rf, this]
/-- What stands between the calls of a law: the land's arena and hasher, and the box of the land. -/
structure LS (w : World) (b bh seed most z1 : Nat) (M : Cells) (F : Nat → Prop) (W : World) : Prop where
  ar : Ar W b most M F
  hh : Hs W bh seed
  nb : ¬ F bh
  lb : C2 W z1 30 (ap b) (.pointer (some ⟨bh, 0, none⟩))
  nz : ¬ F z1 ∧ z1 ≠ bh
  bel : Below w.heap.size w W
  fr : ∀ q, F q → w.heap.size ≤ q
  lo : w.heap.size ≤ z1 ∧ w.heap.size ≤ bh
section
variable {w W W' : World} {b bh seed most z1 : Nat} {M M' : Cells} {F : Nat → Prop}
theorem LS.below (h : LS w b bh seed most z1 M F W) (hb : Below W.heap.size W W') : LS w b bh seed most z1 M F W' :=
  ⟨h.ar.below hb, h.hh.below hb, h.nb, h.lb.below hb, h.nz, h.bel.trans (hb.mono h.bel.size), h.fr, h.lo⟩
theorem LS.alloc (h : LS w b bh seed most z1 M F W) (o : Obj) : LS w b bh seed most z1 M F (W.alloc o) := h.below ((Below.refl _ W).alloc (Nat.le_refl _) o)
/-- What changed is neither the arena's nor the hasher's, nor the land's box. -/
theorem LS.kp {G : Nat → Prop} (h : LS w b bh seed most z1 M F W) (hk : Kp G W W') (hG : ∀ q, G q → w.heap.size ≤ q ∧ ¬ F q ∧ q ≠ bh ∧ q ≠ z1) : LS w b bh seed most z1 M F W' :=
  ⟨h.ar.kp hk (fun q hf hg => (hG q hg).2.1 hf), h.hh.kp hk (fun hg => (hG _ hg).2.2.1 rfl), h.nb, h.lb.kp hk (fun hg => (hG _ hg).2.2.2 rfl), h.nz, below_kp h.bel hk (fun q hg => (hG q hg).1), h.fr, h.lo⟩
/-- The hasher alone was used. -/
theorem LS.hash (h : LS w b bh seed most z1 M F W) (hk : Kp (fun q => q = bh) W W') (hh : Hs W' bh seed) : LS w b bh seed most z1 M F W' :=
  ⟨h.ar.kp hk (fun q hf hg => h.nb (hg ▸ hf)), hh, h.nb, h.lb.kp hk (fun e => h.nz.2 e), h.nz, below_kp h.bel hk (fun q hg => by rw [hg]; exact h.lo.2), h.fr, h.lo⟩
/-- A map was changed. -/
theorem LS.put (h : LS w b bh seed most z1 M F W) (hs : StpH W W' b bh seed most M' F) : LS w b bh seed most z1 M' (Fn F W W') W' := by
  have s1 := h.bel.size
  have hbl := h.hh.lt
  have hzl := h.lb.lt
  exact ⟨hs.ar, hs.hh, fun hf => hf.elim h.nb (fun e => by omega), h.lb.kp hs.kp (fun e => e.elim h.nz.1 h.nz.2), ⟨fun hf => hf.elim h.nz.1 (fun e => by omega), h.nz.2⟩, below_kp h.bel hs.kp (fun q e => e.elim (h.fr q) (fun e => by rw [e]; exact h.lo.2)), fun q hf => hf.elim (h.fr q) (fun e => Nat.le_trans s1 e.1), h.lo⟩
/-- The arena was used: a reference was let go, or held. -/
theorem LS.stp (h : LS w b bh seed most z1 M F W) (hs : Stp W W' b most M' F) : LS w b bh seed most z1 M' (Fn F W W') W' := by
  have s1 := h.bel.size
  have hbl := h.hh.lt
  have hzl := h.lb.lt
  exact ⟨hs.ar, h.hh.kp hs.kp h.nb, fun hf => hf.elim h.nb (fun e => by omega), h.lb.kp hs.kp h.nz.1, ⟨fun hf => hf.elim h.nz.1 (fun e => by omega), h.nz.2⟩, below_kp h.bel hs.kp h.fr, fun q hf => hf.elim (h.fr q) (fun e => Nat.le_trans s1 e.1), h.lo⟩
end
section
theorem lland (seed room : Nat) (w : World) (h1 : 1 ≤ room) (h2 : room ≤ 1048576) :
    Calls Tryz.prog 13 #[.int .u64 seed, .int .i64 (room : Nat)] w fun e w' => ∃ b bh, e = .returned (land b bh) ∧ Ar w' b room (fun _ => none) (fun k => k = b) ∧ Hs w' bh seed ∧ b ≠ bh ∧ w.heap.size ≤ b ∧ w.heap.size ≤ bh ∧ Below w.heap.size w w' := by
  have HN := Lib.hid (anew room (w.alloc (.cells #[.pointer none, .pointer none] 30)) h1 h2)
  have hb : Below w.heap.size w (w.alloc (.cells #[.pointer none, .pointer none] 30)) := (Below.refl _ w).alloc (Nat.le_refl _) _
  have q4 := C2.new w 30 (.pointer none) (.pointer none)
  have hsz : (w.alloc (.cells #[.pointer none, .pointer none] 30)).heap.size = w.heap.size + 1 := by simp
  have HX := Lib.hid (And.intro q4 (And.intro hb hsz))
  clear hb q4 hsz h1 h2
  go_enter Tryz.func13, Tryz.ntmps13
  go_wp2_with fail
  refine HN.out.mono ?_
  rintro e w1 ⟨rfl, ha, hb1⟩
  have H1 := Lib.hid (And.intro ha hb1)
  clear ha hb1
  go_wp2_with fail
  refine (hnew seed w1).mono ?_
  rintro e w2 ⟨rfl, hh, hg⟩
  have hz := HX.out.2.2
  have hs1 := H1.out.2.size
  have q4 := (HX.out.1.below H1.out.2).below hg.below
  obtain ⟨r0, r1, g0, g1⟩ := q4.all
  have FIN := Lib.hid (fun w9 (h9 : Kp (fun q => q = w.heap.size) w2 w9) => (show Ar w9 (w.heap.size + 1) room (fun _ => none) (fun k => k = w.heap.size + 1) ∧ Hs w9 w1.heap.size seed ∧ w.heap.size + 1 ≠ w1.heap.size ∧ w.heap.size ≤ w.heap.size + 1 ∧ w.heap.size ≤ w1.heap.size ∧ Below w.heap.size w w9 from by
    have ha := H1.out.1
    rw [hz] at ha
    have hbl := ha.blt
    exact ⟨(ha.below hg.below).kp h9 (fun q e e2 => by omega), hh.kp h9 (by omega), by omega, by omega, by omega, below_kp ((HX.out.2.1.trans (H1.out.2.mono HX.out.2.1.size)).trans (hg.below.mono (by omega))) h9 (fun q e => by omega)⟩))
  clear q4 hh hg hz hs1
  go_wp2_with fail
  refine bodyPost_ret (v := land (w.heap.size + 1) w1.heap.size) (by simp [results, Tryz.results13, go_sem, r0, r1]) rfl ⟨_, _, rfl, FIN.out _ ?_⟩
  repeat first
    | with_reducible exact Kp.refl _ _
    | with_reducible refine Kp.setCell ?_ (by simp) _
end
end Go.Proofs.YtacoingheieceaaGreat

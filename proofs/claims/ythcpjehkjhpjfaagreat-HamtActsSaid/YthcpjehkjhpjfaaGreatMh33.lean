/- Several texts in one. -/
import Derived.Test.YthcpjehkjhpjfaaGreatMh29
import Derived.Test.YthcpjehkjhpjfaaGreatMh32
import Derived.IntWalk
import Derived.Deep.CutRange
import Derived.Deep.CutBlock
import Derived.BigQuiet
import Derived.Test.YthcpjehkjhpjfaaGreatMh11
set_option linter.unusedSimpArgs false
namespace Go.Proofs.YthcpjehkjhpjfaaGreat
set_option maxRecDepth 100000
set_option linter.unusedSimpArgs false
set_option linter.unusedVariables false
open Go.RowKit
section
set_option maxHeartbeats 8000000 in
theorem lact0 {w0 W : World} {b bh seed zw g cp : Nat} {hs : Ky → Nat} {M : Cells} {F : Nat → Prop} {last : Int} {E : List En} (h : Wd w0 W b bh seed zw hs M F (.slice (some ⟨g, 0, none⟩) E.length cp) last E) (hhs : ∀ q, OkK q → hs q = hashN seed q.1 q.2.1 q.2.2) (a : Ac) (hf : a.Fits) (hk : OkK a.k) (hkd : a.kd.tmod 8 = 0) (hlv : live (65536 + 1) M + 640 ≤ 65536) (hE : 1 ≤ E.length ∧ E.length ≤ 10) :
    Calls Tryz.prog 17 #[.pointer (some ⟨zw, 0, none⟩), .agg #[.int .u8 a.kd, .int .i64 a.i, .int .i64 a.n, .int .u8 a.k.1, .int .i64 a.k.2.1, .string a.k.2.2, .int .u8 a.v.1, .int .i64 a.v.2.1, .string a.v.2.2]] W fun x W' => x = .returned (.bool true) ∧ Acted w0 W W' b bh seed zw hs M F g E := by
  have HWD := Lib.hid h
  have HHS := Lib.hid hhs
  have HA := Lib.hid (And.intro hf (And.intro hk (And.intro hlv hE)))
  have hzl := h.wb.lt
  have x0 := h.wb.c0
  have x3 := h.wb.c3
  have hE1 := hE.1
  have hE2 := hE.2
  obtain ⟨i, hi, hi0⟩ := act_at a.i E.length (by omega) (by omega)
  obtain ⟨n, hn, hn0⟩ := act_n a.n
  have HI := Lib.hid hi0
  have HN := Lib.hid hn0
  have HKD := Lib.hid hkd
  obtain ⟨e, he⟩ : ∃ e, E[i]? = some e := ⟨_, List.getElem?_eq_getElem hi⟩
  have HE := Lib.hid he
  clear h hhs hf hk hlv hE hkd hi0 hn0 he
  have hwl : IntKind.u64.wrap (E.length : Int) = (E.length : Int) := by rw [IntKind.wrap_u64]; omega
  have c9 := C9.new W a
  have hb9 : Below W.heap.size W (W.alloc (.cells #[.int .u8 a.kd, .int .i64 a.i, .int .i64 a.n, .int .u8 a.k.1, .int .i64 a.k.2.1, .string a.k.2.2, .int .u8 a.v.1, .int .i64 a.v.2.1, .string a.v.2.2] 45)) := (Below.refl _ W).alloc (Nat.le_refl _) _
  go_enter Tryz.func17, Tryz.ntmps17
  go_upto_region 1 with fail
  generalize W.alloc (.cells #[.int .u8 a.kd, .int .i64 a.i, .int .i64 a.n, .int .u8 a.k.1, .int .i64 a.k.2.1, .string a.k.2.2, .int .u8 a.v.1, .int .i64 a.v.2.1, .string a.v.2.2] 45) = W1 at c9 hb9 ⊢
  obtain ⟨z3, hz3⟩ : ∃ z, z = W.heap.size := ⟨_, rfl⟩
  rw [← hz3] at c9 ⊢
  have HZ3 := Lib.hid hz3
  clear hz3
  have wb1 := HWD.out.wb.below hb9
  clear x0 x3
  have x0 := wb1.c0
  have x3 := wb1.c3
  have a0 := c9.c0
  have a1 := c9.c1
  have a2 := c9.c2
  go_quiet (fail)
  clear x0 x3 a0 a1 a2
  have hbq : Below W.heap.size W (W1.drewN nq) := hb9.trans ((below_drewN W1 nq).mono hb9.size)
  have C := Lib.hid (show C9 (W1.drewN nq) z3 a from c9.below (below_drewN W1 nq))
  have WB := Lib.hid (HWD.out.below hbq)
  have HBQ := Lib.hid hbq
  clear c9 wb1 hb9 hbq
  generalize W1.drewN nq = W2 at C WB HBQ ⊢
  have a0 := C.out.c0
  have a2 := C.out.c2
  go_upto_region 3 with fail
  rw [HI.out, HN.out]
  have hkd := HKD.out
  have c3 := C.out.c3
  have c4 := C.out.c4
  have c5 := C.out.c5
  have c6 := C.out.c6
  have c7 := C.out.c7
  have c8 := C.out.c8
  go_wp2_with fail
  refine (lput8 WB.out HHS.out i e HE.out a.k a.v HA.out.2.1 (by have := HA.out.2.2.1; omega) (by omega)).mono ?_
  rintro x W9 ⟨rfl, M', F', E', hc⟩
  have HC := Lib.hid (hc.acted HBQ.out HA.out.2.2.2)
  clear hc a0 a2 c3 c4 c5 c6 c7 c8
  go_wp2_with fail
  go_ret
  exact ⟨rfl, HC.out⟩
end
section
set_option maxHeartbeats 8000000 in
theorem lact1 {w0 W : World} {b bh seed zw g cp : Nat} {hs : Ky → Nat} {M : Cells} {F : Nat → Prop} {last : Int} {E : List En} (h : Wd w0 W b bh seed zw hs M F (.slice (some ⟨g, 0, none⟩) E.length cp) last E) (hhs : ∀ q, OkK q → hs q = hashN seed q.1 q.2.1 q.2.2) (a : Ac) (hf : a.Fits) (hk : OkK a.k) (hkd : a.kd.tmod 8 = 1) (hlv : live (65536 + 1) M + 640 ≤ 65536) (hE : 1 ≤ E.length ∧ E.length ≤ 10) :
    Calls Tryz.prog 17 #[.pointer (some ⟨zw, 0, none⟩), .agg #[.int .u8 a.kd, .int .i64 a.i, .int .i64 a.n, .int .u8 a.k.1, .int .i64 a.k.2.1, .string a.k.2.2, .int .u8 a.v.1, .int .i64 a.v.2.1, .string a.v.2.2]] W fun x W' => x = .returned (.bool true) ∧ Acted w0 W W' b bh seed zw hs M F g E := by
  have HWD := Lib.hid h
  have HHS := Lib.hid hhs
  have HA := Lib.hid (And.intro hf (And.intro hk (And.intro hlv hE)))
  have hzl := h.wb.lt
  have x0 := h.wb.c0
  have x3 := h.wb.c3
  have hE1 := hE.1
  have hE2 := hE.2
  obtain ⟨i, hi, hi0⟩ := act_at a.i E.length (by omega) (by omega)
  obtain ⟨n, hn, hn0⟩ := act_n a.n
  have HI := Lib.hid hi0
  have HN := Lib.hid hn0
  have HKD := Lib.hid hkd
  obtain ⟨e, he⟩ : ∃ e, E[i]? = some e := ⟨_, List.getElem?_eq_getElem hi⟩
  have HE := Lib.hid he
  clear h hhs hf hk hlv hE hkd hi0 hn0 he
  have hwl : IntKind.u64.wrap (E.length : Int) = (E.length : Int) := by rw [IntKind.wrap_u64]; omega
  have c9 := C9.new W a
  have hb9 : Below W.heap.size W (W.alloc (.cells #[.int .u8 a.kd, .int .i64 a.i, .int .i64 a.n, .int .u8 a.k.1, .int .i64 a.k.2.1, .string a.k.2.2, .int .u8 a.v.1, .int .i64 a.v.2.1, .string a.v.2.2] 45)) := (Below.refl _ W).alloc (Nat.le_refl _) _
  go_enter Tryz.func17, Tryz.ntmps17
  go_upto_region 1 with fail
  generalize W.alloc (.cells #[.int .u8 a.kd, .int .i64 a.i, .int .i64 a.n, .int .u8 a.k.1, .int .i64 a.k.2.1, .string a.k.2.2, .int .u8 a.v.1, .int .i64 a.v.2.1, .string a.v.2.2] 45) = W1 at c9 hb9 ⊢
  obtain ⟨z3, hz3⟩ : ∃ z, z = W.heap.size := ⟨_, rfl⟩
  rw [← hz3] at c9 ⊢
  have HZ3 := Lib.hid hz3
  clear hz3
  have wb1 := HWD.out.wb.below hb9
  clear x0 x3
  have x0 := wb1.c0
  have x3 := wb1.c3
  have a0 := c9.c0
  have a1 := c9.c1
  have a2 := c9.c2
  go_quiet (fail)
  clear x0 x3 a0 a1 a2
  have hbq : Below W.heap.size W (W1.drewN nq) := hb9.trans ((below_drewN W1 nq).mono hb9.size)
  have C := Lib.hid (show C9 (W1.drewN nq) z3 a from c9.below (below_drewN W1 nq))
  have WB := Lib.hid (HWD.out.below hbq)
  have HBQ := Lib.hid hbq
  clear c9 wb1 hb9 hbq
  generalize W1.drewN nq = W2 at C WB HBQ ⊢
  have a0 := C.out.c0
  have a2 := C.out.c2
  go_upto_region 3 with fail
  rw [HI.out, HN.out]
  have hkd := HKD.out
  have c3 := C.out.c3
  have c4 := C.out.c4
  have c5 := C.out.c5
  go_wp2_with fail
  refine (ltake8 WB.out HHS.out i e HE.out a.k HA.out.2.1 (by have := HA.out.2.2.1; omega) (by omega)).mono ?_
  rintro x W9 ⟨rfl, M', F', E', hc⟩
  have HC := Lib.hid (hc.acted HBQ.out HA.out.2.2.2)
  clear hc a0 a2 c3 c4 c5
  go_wp2_with fail
  go_ret
  exact ⟨rfl, HC.out⟩
end
end Go.Proofs.YthcpjehkjhpjfaaGreat

namespace Go.Proofs.YthcpjehkjhpjfaaGreat
set_option maxRecDepth 100000
set_option linter.unusedSimpArgs false
set_option linter.unusedVariables false
open Go.RowKit
section
set_option maxHeartbeats 8000000 in
theorem lact2 {w0 W : World} {b bh seed zw g cp : Nat} {hs : Ky → Nat} {M : Cells} {F : Nat → Prop} {last : Int} {E : List En} (h : Wd w0 W b bh seed zw hs M F (.slice (some ⟨g, 0, none⟩) E.length cp) last E) (hhs : ∀ q, OkK q → hs q = hashN seed q.1 q.2.1 q.2.2) (a : Ac) (hf : a.Fits) (hk : OkK a.k) (hkd : a.kd.tmod 8 = 2) (hlv : live (65536 + 1) M + 640 ≤ 65536) (hE : 1 ≤ E.length ∧ E.length ≤ 10) :
    Calls Tryz.prog 17 #[.pointer (some ⟨zw, 0, none⟩), .agg #[.int .u8 a.kd, .int .i64 a.i, .int .i64 a.n, .int .u8 a.k.1, .int .i64 a.k.2.1, .string a.k.2.2, .int .u8 a.v.1, .int .i64 a.v.2.1, .string a.v.2.2]] W fun x W' => x = .returned (.bool true) ∧ Acted w0 W W' b bh seed zw hs M F g E := by
  have HWD := Lib.hid h
  have HHS := Lib.hid hhs
  have HA := Lib.hid (And.intro hf (And.intro hk (And.intro hlv hE)))
  have hzl := h.wb.lt
  have x0 := h.wb.c0
  have x3 := h.wb.c3
  have hE1 := hE.1
  have hE2 := hE.2
  obtain ⟨i, hi, hi0⟩ := act_at a.i E.length (by omega) (by omega)
  obtain ⟨n, hn, hn0⟩ := act_n a.n
  have HI := Lib.hid hi0
  have HN := Lib.hid hn0
  have HKD := Lib.hid hkd
  obtain ⟨e, he⟩ : ∃ e, E[i]? = some e := ⟨_, List.getElem?_eq_getElem hi⟩
  have HE := Lib.hid he
  clear h hhs hf hk hlv hE hkd hi0 hn0 he
  have hwl : IntKind.u64.wrap (E.length : Int) = (E.length : Int) := by rw [IntKind.wrap_u64]; omega
  have c9 := C9.new W a
  have hb9 : Below W.heap.size W (W.alloc (.cells #[.int .u8 a.kd, .int .i64 a.i, .int .i64 a.n, .int .u8 a.k.1, .int .i64 a.k.2.1, .string a.k.2.2, .int .u8 a.v.1, .int .i64 a.v.2.1, .string a.v.2.2] 45)) := (Below.refl _ W).alloc (Nat.le_refl _) _
  go_enter Tryz.func17, Tryz.ntmps17
  go_upto_region 1 with fail
  generalize W.alloc (.cells #[.int .u8 a.kd, .int .i64 a.i, .int .i64 a.n, .int .u8 a.k.1, .int .i64 a.k.2.1, .string a.k.2.2, .int .u8 a.v.1, .int .i64 a.v.2.1, .string a.v.2.2] 45) = W1 at c9 hb9 ⊢
  obtain ⟨z3, hz3⟩ : ∃ z, z = W.heap.size := ⟨_, rfl⟩
  rw [← hz3] at c9 ⊢
  have HZ3 := Lib.hid hz3
  clear hz3
  have wb1 := HWD.out.wb.below hb9
  clear x0 x3
  have x0 := wb1.c0
  have x3 := wb1.c3
  have a0 := c9.c0
  have a1 := c9.c1
  have a2 := c9.c2
  go_quiet (fail)
  clear x0 x3 a0 a1 a2
  have hbq : Below W.heap.size W (W1.drewN nq) := hb9.trans ((below_drewN W1 nq).mono hb9.size)
  have C := Lib.hid (show C9 (W1.drewN nq) z3 a from c9.below (below_drewN W1 nq))
  have WB := Lib.hid (HWD.out.below hbq)
  have HBQ := Lib.hid hbq
  clear c9 wb1 hb9 hbq
  generalize W1.drewN nq = W2 at C WB HBQ ⊢
  have a0 := C.out.c0
  have a2 := C.out.c2
  go_upto_region 3 with fail
  rw [HI.out, HN.out]
  have hkd := HKD.out
  go_wp2_with fail
  go_loopg [56] n (fun c' s56 wr => ∃ j : Nat, j + c' = n ∧ s56 = .int .i64 (j : Int) ∧ ∃ (M' : Cells) (F' : Nat → Prop) (E' : List En), Wd w0 wr b bh seed zw hs M' F' (.slice (some ⟨g, 0, none⟩) E'.length cp) last E' ∧ E'.length = E.length ∧ live (65536 + 1) M' ≤ live (65536 + 1) M + 16 * j ∧ Kp (fun q => F q ∨ q = bh ∨ q = g ∨ q = zw) W wr ∧ (∀ q, F' q → F q ∨ z3 < q) ∧ C9 wr z3 a)
  case atStart => exact ⟨0, by omega, rfl, M, F, E, WB.out, rfl, Nat.le_add_right _ _, Kp.of_below HBQ.out _, fun q hq => .inl hq, C.out⟩
  case round =>
    clear a0 a2
    obtain ⟨j, hj, rfl, M1, F1, E1, wd1, hl1, hv1, hk1, hf1, c91⟩ := hrel
    have HR := Lib.hid (And.intro wd1 (And.intro hl1 (And.intro hv1 (And.intro hk1 (And.intro hf1 c91)))))
    have a0 := c91.c0
    have a2 := c91.c2
    by_cases h1 : j < n
    · have h1i : (j : Int) < (n : Int) := by omega
      have hw1 : IntKind.i64.wrap ((j : Int) + 1) = (j : Int) + 1 := IntWalk.i64_in _ (by omega)
      have hw2 : wrap64 ((j : Int) + 1) = (j : Int) + 1 := IntWalk.wrap64_in _ (by omega)
      have HJ := Lib.hid (And.intro hj h1)
      obtain ⟨e1, he1⟩ : ∃ e1, E1[i]? = some e1 := ⟨_, List.getElem?_eq_getElem (by omega)⟩
      have HE1 := Lib.hid he1
      clear wd1 hl1 hv1 hk1 hf1 c91 he1 hj h1
      go_wp2_with fail
      refine (lnumber _ _).mono ?_
      rintro x w3 ⟨rfl, hb3⟩
      have wd4 := (HR.out.1.below hb3).below ((Below.refl _ w3).alloc (Nat.le_refl _) (.cells #[.int .u8 2, .int .i64 (wrap64 ((wrap64 (a.n.tdiv 40)).tmod 50 + (j : Int))), .string ⟨#[]⟩] 43))
      have c94 := (HR.out.2.2.2.2.2.below hb3).below ((Below.refl _ w3).alloc (Nat.le_refl _) (.cells #[.int .u8 2, .int .i64 (wrap64 ((wrap64 (a.n.tdiv 40)).tmod 50 + (j : Int))), .string ⟨#[]⟩] 43))
      have b34 := hb3.alloc hb3.size (.cells #[.int .u8 2, .int .i64 (wrap64 ((wrap64 (a.n.tdiv 40)).tmod 50 + (j : Int))), .string ⟨#[]⟩] 43)
      have k8 := C3.new w3 43 (.int .u8 2) (.int .i64 (wrap64 ((wrap64 (a.n.tdiv 40)).tmod 50 + (j : Int)))) (.string ⟨#[]⟩)
      clear hb3 a0 a2
      go_upto_region 15 with fail
      generalize w3.alloc (.cells #[.int .u8 2, .int .i64 (wrap64 ((wrap64 (a.n.tdiv 40)).tmod 50 + (j : Int))), .string ⟨#[]⟩] 43) = w4 at wd4 c94 b34 k8 ⊢
      generalize wrap64 ((wrap64 (a.n.tdiv 40)).tmod 50 + (j : Int)) = X at k8 ⊢
      generalize w3.heap.size = z8 at k8 ⊢
      have W4 := Lib.hid (And.intro wd4 (And.intro c94 b34))
      have a0 := c94.c0
      have c6 := c94.c6
      have c7 := c94.c7
      have c8 := c94.c8
      obtain ⟨k0, k1, k2, _⟩ := k8.all
      have okX : OkK (2, X, ⟨#[]⟩) := by refine ⟨by show (0 : Int) ≤ 2; decide, by show (2 : Int) ≤ 255; decide, ?_⟩; show 17 + (⟨#[]⟩ : ByteArray).size ≤ _; decide
      have HOK := Lib.hid okX
      clear wd4 c94 b34 k8 okX
      go_wp2_with fail
      refine (lput8 W4.out.1 HHS.out i e1 HE1.out (2, X, ⟨#[]⟩) a.v HOK.out (by have := HR.out.2.2.1; have := HA.out.2.2.1; have := HJ.out.2; omega) (by have := HR.out.2.1; omega)).mono ?_
      rintro x w5 ⟨rfl, M5, F5, E5, hc⟩
      have hz3 : z3 < w4.heap.size := W4.out.2.1.lt
      have hz0 := HZ3.out
      have hzW : W.heap.size ≤ wr.heap.size := HR.out.2.2.2.1.size
      have hnz : ¬ (F1 z3 ∨ z3 = bh ∨ z3 = g) := fun h => by
        have hbl := HWD.out.hh.lt
        have hgl := (own_blk HWD.out.all g rfl).2
        rcases h with h | h | h
        · rcases HR.out.2.2.2.2.1 z3 h with h | h
          · have := HWD.out.ar.lt h; omega
          · omega
        · omega
        · omega
      have c95 : C9 w5 z3 a := hc.kp.at W4.out.2.1 hnz
      have H5 := Lib.hid (show Wd w0 w5 b bh seed zw hs M5 F5 (.slice (some ⟨g, 0, none⟩) E5.length cp) last E5 ∧ E5.length = E.length ∧ live (65536 + 1) M5 ≤ live (65536 + 1) M + 16 * (j + 1) ∧ Kp (fun q => F q ∨ q = bh ∨ q = g ∨ q = zw) W w5 ∧ (∀ q, F5 q → F q ∨ z3 < q) ∧ C9 w5 z3 a from by
        obtain ⟨r1, r2, r3, r4, r5, r6⟩ := HR.out
        have hw := hc.wd
        rw [← hc.len] at hw
        refine ⟨hw, by rw [hc.len]; exact r2, by have := hc.live; omega, (r4.trans (Kp.of_below W4.out.2.2 (fun _ => False)) (fun _ h => h.elim)).trans hc.kp (fun q hq => ?_), fun q hq => ?_, c95⟩
        · rcases hq with hq | hq | hq
          · exact (r5 q hq).elim (fun h => .inl (.inl h)) (fun h => .inr (by omega))
          · exact .inl (.inr (.inl hq))
          · exact .inl (.inr (.inr (.inl hq)))
        · rcases hc.fr q hq with hq | hq
          · exact r5 q hq
          · exact .inr (by omega))
      clear a0 c6 c7 c8 k0 k1 k2 hz3 hz0 hzW hnz hc
      have a0 := c95.c0
      clear c95
      go_wp2_with fail
      go_roundg (n - (j + 1))
      case measure => have := HJ.out; omega
      case rel => exact ⟨j + 1, by have := HJ.out; omega, by go_num, M5, F5, E5, H5.out⟩
    · obtain rfl : j = n := by omega
      have HQ := Lib.hid (show Acted w0 W wr b bh seed zw hs M F g E from ⟨g, cp, M1, F1, last, E1, wd1, by omega, by omega, by omega, hk1, fun q hq => (hf1 q hq).imp id (fun h => by have := HZ3.out; omega)⟩)
      clear wd1 hl1 hv1 hk1 hf1 c91 a0 a2 HR
      go_wp2_with fail
      go_ret
      exact ⟨rfl, HQ.out⟩
end
section
set_option maxHeartbeats 8000000 in
theorem lact7 {w0 W : World} {b bh seed zw g cp : Nat} {hs : Ky → Nat} {M : Cells} {F : Nat → Prop} {last : Int} {E : List En} (h : Wd w0 W b bh seed zw hs M F (.slice (some ⟨g, 0, none⟩) E.length cp) last E) (hhs : ∀ q, OkK q → hs q = hashN seed q.1 q.2.1 q.2.2) (a : Ac) (hf : a.Fits) (hk : OkK a.k) (hkd : a.kd.tmod 8 = 7) (hlv : live (65536 + 1) M + 640 ≤ 65536) (hE : 1 ≤ E.length ∧ E.length ≤ 10) :
    Calls Tryz.prog 17 #[.pointer (some ⟨zw, 0, none⟩), .agg #[.int .u8 a.kd, .int .i64 a.i, .int .i64 a.n, .int .u8 a.k.1, .int .i64 a.k.2.1, .string a.k.2.2, .int .u8 a.v.1, .int .i64 a.v.2.1, .string a.v.2.2]] W fun x W' => x = .returned (.bool true) ∧ Acted w0 W W' b bh seed zw hs M F g E := by
  have HWD := Lib.hid h
  have HHS := Lib.hid hhs
  have HA := Lib.hid (And.intro hf (And.intro hk (And.intro hlv hE)))
  have hzl := h.wb.lt
  have x0 := h.wb.c0
  have x3 := h.wb.c3
  have hE1 := hE.1
  have hE2 := hE.2
  obtain ⟨i, hi, hi0⟩ := act_at a.i E.length (by omega) (by omega)
  obtain ⟨n, hn, hn0⟩ := act_n a.n
  have HI := Lib.hid hi0
  have HN := Lib.hid hn0
  have HKD := Lib.hid hkd
  obtain ⟨e, he⟩ : ∃ e, E[i]? = some e := ⟨_, List.getElem?_eq_getElem hi⟩
  have HE := Lib.hid he
  clear h hhs hf hk hlv hE hkd hi0 hn0 he
  have hwl : IntKind.u64.wrap (E.length : Int) = (E.length : Int) := by rw [IntKind.wrap_u64]; omega
  have c9 := C9.new W a
  have hb9 : Below W.heap.size W (W.alloc (.cells #[.int .u8 a.kd, .int .i64 a.i, .int .i64 a.n, .int .u8 a.k.1, .int .i64 a.k.2.1, .string a.k.2.2, .int .u8 a.v.1, .int .i64 a.v.2.1, .string a.v.2.2] 45)) := (Below.refl _ W).alloc (Nat.le_refl _) _
  go_enter Tryz.func17, Tryz.ntmps17
  go_upto_region 1 with fail
  generalize W.alloc (.cells #[.int .u8 a.kd, .int .i64 a.i, .int .i64 a.n, .int .u8 a.k.1, .int .i64 a.k.2.1, .string a.k.2.2, .int .u8 a.v.1, .int .i64 a.v.2.1, .string a.v.2.2] 45) = W1 at c9 hb9 ⊢
  obtain ⟨z3, hz3⟩ : ∃ z, z = W.heap.size := ⟨_, rfl⟩
  rw [← hz3] at c9 ⊢
  have HZ3 := Lib.hid hz3
  clear hz3
  have wb1 := HWD.out.wb.below hb9
  clear x0 x3
  have x0 := wb1.c0
  have x3 := wb1.c3
  have a0 := c9.c0
  have a1 := c9.c1
  have a2 := c9.c2
  go_quiet (fail)
  clear x0 x3 a0 a1 a2
  have hbq : Below W.heap.size W (W1.drewN nq) := hb9.trans ((below_drewN W1 nq).mono hb9.size)
  have C := Lib.hid (show C9 (W1.drewN nq) z3 a from c9.below (below_drewN W1 nq))
  have WB := Lib.hid (HWD.out.below hbq)
  have HBQ := Lib.hid hbq
  clear c9 wb1 hb9 hbq
  generalize W1.drewN nq = W2 at C WB HBQ ⊢
  have a0 := C.out.c0
  have a2 := C.out.c2
  go_upto_region 3 with fail
  rw [HI.out, HN.out]
  have hkd := HKD.out
  go_wp2_with fail
  go_loopg [56] n (fun c' s56 wr => ∃ j : Nat, j + c' = n ∧ s56 = .int .i64 (j : Int) ∧ ∃ (M' : Cells) (F' : Nat → Prop) (E' : List En), Wd w0 wr b bh seed zw hs M' F' (.slice (some ⟨g, 0, none⟩) E'.length cp) last E' ∧ E'.length = E.length ∧ live (65536 + 1) M' ≤ live (65536 + 1) M + 16 * j ∧ Kp (fun q => F q ∨ q = bh ∨ q = g ∨ q = zw) W wr ∧ (∀ q, F' q → F q ∨ z3 < q) ∧ C9 wr z3 a)
  case atStart => exact ⟨0, by omega, rfl, M, F, E, WB.out, rfl, Nat.le_add_right _ _, Kp.of_below HBQ.out _, fun q hq => .inl hq, C.out⟩
  case round =>
    clear a0 a2
    obtain ⟨j, hj, rfl, M1, F1, E1, wd1, hl1, hv1, hk1, hf1, c91⟩ := hrel
    have HR := Lib.hid (And.intro wd1 (And.intro hl1 (And.intro hv1 (And.intro hk1 (And.intro hf1 c91)))))
    have a0 := c91.c0
    have a2 := c91.c2
    by_cases h1 : j < n
    · have h1i : (j : Int) < (n : Int) := by omega
      have hw1 : IntKind.i64.wrap ((j : Int) + 1) = (j : Int) + 1 := IntWalk.i64_in _ (by omega)
      have hw2 : wrap64 ((j : Int) + 1) = (j : Int) + 1 := IntWalk.wrap64_in _ (by omega)
      have HJ := Lib.hid (And.intro hj h1)
      obtain ⟨e1, he1⟩ : ∃ e1, E1[i]? = some e1 := ⟨_, List.getElem?_eq_getElem (by omega)⟩
      have HE1 := Lib.hid he1
      clear wd1 hl1 hv1 hk1 hf1 c91 he1 hj h1
      go_wp2_with fail
      refine (lnumber _ _).mono ?_
      rintro x w3 ⟨rfl, hb3⟩
      have wd4 := (HR.out.1.below hb3).below ((Below.refl _ w3).alloc (Nat.le_refl _) (.cells #[.int .u8 2, .int .i64 (wrap64 ((wrap64 (a.n.tdiv 40)).tmod 50 + (j : Int))), .string ⟨#[]⟩] 43))
      have c94 := (HR.out.2.2.2.2.2.below hb3).below ((Below.refl _ w3).alloc (Nat.le_refl _) (.cells #[.int .u8 2, .int .i64 (wrap64 ((wrap64 (a.n.tdiv 40)).tmod 50 + (j : Int))), .string ⟨#[]⟩] 43))
      have b34 := hb3.alloc hb3.size (.cells #[.int .u8 2, .int .i64 (wrap64 ((wrap64 (a.n.tdiv 40)).tmod 50 + (j : Int))), .string ⟨#[]⟩] 43)
      have k8 := C3.new w3 43 (.int .u8 2) (.int .i64 (wrap64 ((wrap64 (a.n.tdiv 40)).tmod 50 + (j : Int)))) (.string ⟨#[]⟩)
      clear hb3 a0 a2
      go_upto_region 15 with fail
      generalize w3.alloc (.cells #[.int .u8 2, .int .i64 (wrap64 ((wrap64 (a.n.tdiv 40)).tmod 50 + (j : Int))), .string ⟨#[]⟩] 43) = w4 at wd4 c94 b34 k8 ⊢
      generalize wrap64 ((wrap64 (a.n.tdiv 40)).tmod 50 + (j : Int)) = X at k8 ⊢
      generalize w3.heap.size = z8 at k8 ⊢
      have W4 := Lib.hid (And.intro wd4 (And.intro c94 b34))
      have a0 := c94.c0
      have c6 := c94.c6
      have c7 := c94.c7
      have c8 := c94.c8
      obtain ⟨k0, k1, k2, _⟩ := k8.all
      have okX : OkK (2, X, ⟨#[]⟩) := by refine ⟨by show (0 : Int) ≤ 2; decide, by show (2 : Int) ≤ 255; decide, ?_⟩; show 17 + (⟨#[]⟩ : ByteArray).size ≤ _; decide
      have HOK := Lib.hid okX
      clear wd4 c94 b34 k8 okX
      go_wp2_with fail
      refine (ltake8 W4.out.1 HHS.out i e1 HE1.out (2, X, ⟨#[]⟩) HOK.out (by have := HR.out.2.2.1; have := HA.out.2.2.1; have := HJ.out.2; omega) (by have := HR.out.2.1; omega)).mono ?_
      rintro x w5 ⟨rfl, M5, F5, E5, hc⟩
      have hz3 : z3 < w4.heap.size := W4.out.2.1.lt
      have hz0 := HZ3.out
      have hzW : W.heap.size ≤ wr.heap.size := HR.out.2.2.2.1.size
      have hnz : ¬ (F1 z3 ∨ z3 = bh ∨ z3 = g) := fun h => by
        have hbl := HWD.out.hh.lt
        have hgl := (own_blk HWD.out.all g rfl).2
        rcases h with h | h | h
        · rcases HR.out.2.2.2.2.1 z3 h with h | h
          · have := HWD.out.ar.lt h; omega
          · omega
        · omega
        · omega
      have c95 : C9 w5 z3 a := hc.kp.at W4.out.2.1 hnz
      have H5 := Lib.hid (show Wd w0 w5 b bh seed zw hs M5 F5 (.slice (some ⟨g, 0, none⟩) E5.length cp) last E5 ∧ E5.length = E.length ∧ live (65536 + 1) M5 ≤ live (65536 + 1) M + 16 * (j + 1) ∧ Kp (fun q => F q ∨ q = bh ∨ q = g ∨ q = zw) W w5 ∧ (∀ q, F5 q → F q ∨ z3 < q) ∧ C9 w5 z3 a from by
        obtain ⟨r1, r2, r3, r4, r5, r6⟩ := HR.out
        have hw := hc.wd
        rw [← hc.len] at hw
        refine ⟨hw, by rw [hc.len]; exact r2, by have := hc.live; omega, (r4.trans (Kp.of_below W4.out.2.2 (fun _ => False)) (fun _ h => h.elim)).trans hc.kp (fun q hq => ?_), fun q hq => ?_, c95⟩
        · rcases hq with hq | hq | hq
          · exact (r5 q hq).elim (fun h => .inl (.inl h)) (fun h => .inr (by omega))
          · exact .inl (.inr (.inl hq))
          · exact .inl (.inr (.inr (.inl hq)))
        · rcases hc.fr q hq with hq | hq
          · exact r5 q hq
          · exact .inr (by omega))
      clear a0 c6 c7 c8 k0 k1 k2 hz3 hz0 hzW hnz hc
      have a0 := c95.c0
      clear c95
      go_wp2_with fail
      go_roundg (n - (j + 1))
      case measure => have := HJ.out; omega
      case rel => exact ⟨j + 1, by have := HJ.out; omega, by go_num, M5, F5, E5, H5.out⟩
    · obtain rfl : j = n := by omega
      have HQ := Lib.hid (show Acted w0 W wr b bh seed zw hs M F g E from ⟨g, cp, M1, F1, last, E1, wd1, by omega, by omega, by omega, hk1, fun q hq => (hf1 q hq).imp id (fun h => by have := HZ3.out; omega)⟩)
      clear wd1 hl1 hv1 hk1 hf1 c91 a0 a2 HR
      go_wp2_with fail
      go_ret
      exact ⟨rfl, HQ.out⟩
end
end Go.Proofs.YthcpjehkjhpjfaaGreat

namespace Go.Proofs.YthcpjehkjhpjfaaGreat
set_option maxRecDepth 100000
set_option linter.unusedSimpArgs false
set_option linter.unusedVariables false
open Go.RowKit
section
set_option maxHeartbeats 8000000 in
theorem lact6 {w0 W : World} {b bh seed zw g cp : Nat} {hs : Ky → Nat} {M : Cells} {F : Nat → Prop} {last : Int} {E : List En} (h : Wd w0 W b bh seed zw hs M F (.slice (some ⟨g, 0, none⟩) E.length cp) last E) (hhs : ∀ q, OkK q → hs q = hashN seed q.1 q.2.1 q.2.2) (a : Ac) (hf : a.Fits) (hk : OkK a.k) (hkd : a.kd.tmod 8 = 6) (hlv : live (65536 + 1) M + 640 ≤ 65536) (hE : 1 ≤ E.length ∧ E.length ≤ 10) :
    Calls Tryz.prog 17 #[.pointer (some ⟨zw, 0, none⟩), .agg #[.int .u8 a.kd, .int .i64 a.i, .int .i64 a.n, .int .u8 a.k.1, .int .i64 a.k.2.1, .string a.k.2.2, .int .u8 a.v.1, .int .i64 a.v.2.1, .string a.v.2.2]] W fun x W' => x = .returned (.bool true) ∧ Acted w0 W W' b bh seed zw hs M F g E := by
  have HWD := Lib.hid h
  have HHS := Lib.hid hhs
  have HA := Lib.hid (And.intro hf (And.intro hk (And.intro hlv hE)))
  have hzl := h.wb.lt
  have x0 := h.wb.c0
  have x3 := h.wb.c3
  have hE1 := hE.1
  have hE2 := hE.2
  obtain ⟨i, hi, hi0⟩ := act_at a.i E.length (by omega) (by omega)
  obtain ⟨n, hn, hn0⟩ := act_n a.n
  have HI := Lib.hid hi0
  have HN := Lib.hid hn0
  have HKD := Lib.hid hkd
  obtain ⟨e, he⟩ : ∃ e, E[i]? = some e := ⟨_, List.getElem?_eq_getElem hi⟩
  have HE := Lib.hid he
  clear h hhs hf hk hlv hE hkd hi0 hn0 he
  have hwl : IntKind.u64.wrap (E.length : Int) = (E.length : Int) := by rw [IntKind.wrap_u64]; omega
  have c9 := C9.new W a
  have hb9 : Below W.heap.size W (W.alloc (.cells #[.int .u8 a.kd, .int .i64 a.i, .int .i64 a.n, .int .u8 a.k.1, .int .i64 a.k.2.1, .string a.k.2.2, .int .u8 a.v.1, .int .i64 a.v.2.1, .string a.v.2.2] 45)) := (Below.refl _ W).alloc (Nat.le_refl _) _
  go_enter Tryz.func17, Tryz.ntmps17
  go_upto_region 1 with fail
  generalize W.alloc (.cells #[.int .u8 a.kd, .int .i64 a.i, .int .i64 a.n, .int .u8 a.k.1, .int .i64 a.k.2.1, .string a.k.2.2, .int .u8 a.v.1, .int .i64 a.v.2.1, .string a.v.2.2] 45) = W1 at c9 hb9 ⊢
  obtain ⟨z3, hz3⟩ : ∃ z, z = W.heap.size := ⟨_, rfl⟩
  rw [← hz3] at c9 ⊢
  have HZ3 := Lib.hid hz3
  clear hz3
  have wb1 := HWD.out.wb.below hb9
  clear x0 x3
  have x0 := wb1.c0
  have x3 := wb1.c3
  have a0 := c9.c0
  have a1 := c9.c1
  have a2 := c9.c2
  go_quiet (fail)
  clear x0 x3 a0 a1 a2
  have hbq : Below W.heap.size W (W1.drewN nq) := hb9.trans ((below_drewN W1 nq).mono hb9.size)
  have C := Lib.hid (show C9 (W1.drewN nq) z3 a from c9.below (below_drewN W1 nq))
  have WB := Lib.hid (HWD.out.below hbq)
  have HBQ := Lib.hid hbq
  clear c9 wb1 hb9 hbq
  generalize W1.drewN nq = W2 at C WB HBQ ⊢
  have a0 := C.out.c0
  have a2 := C.out.c2
  go_upto_region 3 with fail
  rw [HI.out, HN.out]
  have hkd := HKD.out
  have x3 := WB.out.wb.c3
  obtain ⟨r0, r1, r2, r3, f0, f1, f2, f3⟩ := row4 WB.out.all HE.out
  have hi1 : (0 : Int) ≤ (i : Int) := by omega
  have hi2 : (i : Int) < (E.length : Int) := by omega
  go_wp2_with fail
  go_ret
  refine ⟨rfl, g, cp, M, F, last, E.set i ⟨e.root, e.l, e.s, 0⟩, ?_, by rw [List.length_set]; exact HA.out.2.2.2.1, by rw [List.length_set]; exact HA.out.2.2.2.2, Nat.le_add_right _ _, (Kp.of_below HBQ.out _).trans (Kp.one W2 g (i * 4 + 3) (.int .u32 0)) (fun q e => .inl (.inr (.inr (.inl e)))), fun q hq => .inl hq⟩
  rw [List.length_set]
  exact WB.out.free HE.out
end
end Go.Proofs.YthcpjehkjhpjfaaGreat

namespace Go.Proofs.YthcpjehkjhpjfaaGreat
set_option maxRecDepth 100000
set_option linter.unusedSimpArgs false
set_option linter.unusedVariables false
open Go.RowKit
section
set_option maxHeartbeats 8000000 in
theorem lact4 {w0 W : World} {b bh seed zw g cp : Nat} {hs : Ky → Nat} {M : Cells} {F : Nat → Prop} {last : Int} {E : List En} (h : Wd w0 W b bh seed zw hs M F (.slice (some ⟨g, 0, none⟩) E.length cp) last E) (hhs : ∀ q, OkK q → hs q = hashN seed q.1 q.2.1 q.2.2) (a : Ac) (hf : a.Fits) (hk : OkK a.k) (hkd : a.kd.tmod 8 = 4) (hlv : live (65536 + 1) M + 640 ≤ 65536) (hE : 1 ≤ E.length ∧ E.length ≤ 10) :
    Calls Tryz.prog 17 #[.pointer (some ⟨zw, 0, none⟩), .agg #[.int .u8 a.kd, .int .i64 a.i, .int .i64 a.n, .int .u8 a.k.1, .int .i64 a.k.2.1, .string a.k.2.2, .int .u8 a.v.1, .int .i64 a.v.2.1, .string a.v.2.2]] W fun x W' => x = .returned (.bool true) ∧ Acted w0 W W' b bh seed zw hs M F g E := by
  have HWD := Lib.hid h
  have HHS := Lib.hid hhs
  have HA := Lib.hid (And.intro hf (And.intro hk (And.intro hlv hE)))
  have hzl := h.wb.lt
  have x0 := h.wb.c0
  have x3 := h.wb.c3
  have hE1 := hE.1
  have hE2 := hE.2
  obtain ⟨i, hi, hi0⟩ := act_at a.i E.length (by omega) (by omega)
  obtain ⟨n, hn, hn0⟩ := act_n a.n
  have HI := Lib.hid hi0
  have HN := Lib.hid hn0
  have HKD := Lib.hid hkd
  obtain ⟨e, he⟩ : ∃ e, E[i]? = some e := ⟨_, List.getElem?_eq_getElem hi⟩
  have HE := Lib.hid he
  clear h hhs hf hk hlv hE hkd hi0 hn0 he
  have hwl : IntKind.u64.wrap (E.length : Int) = (E.length : Int) := by rw [IntKind.wrap_u64]; omega
  have c9 := C9.new W a
  have hb9 : Below W.heap.size W (W.alloc (.cells #[.int .u8 a.kd, .int .i64 a.i, .int .i64 a.n, .int .u8 a.k.1, .int .i64 a.k.2.1, .string a.k.2.2, .int .u8 a.v.1, .int .i64 a.v.2.1, .string a.v.2.2] 45)) := (Below.refl _ W).alloc (Nat.le_refl _) _
  go_enter Tryz.func17, Tryz.ntmps17
  go_upto_region 1 with fail
  generalize W.alloc (.cells #[.int .u8 a.kd, .int .i64 a.i, .int .i64 a.n, .int .u8 a.k.1, .int .i64 a.k.2.1, .string a.k.2.2, .int .u8 a.v.1, .int .i64 a.v.2.1, .string a.v.2.2] 45) = W1 at c9 hb9 ⊢
  obtain ⟨z3, hz3⟩ : ∃ z, z = W.heap.size := ⟨_, rfl⟩
  rw [← hz3] at c9 ⊢
  have HZ3 := Lib.hid hz3
  clear hz3
  have wb1 := HWD.out.wb.below hb9
  clear x0 x3
  have x0 := wb1.c0
  have x3 := wb1.c3
  have a0 := c9.c0
  have a1 := c9.c1
  have a2 := c9.c2
  go_quiet (fail)
  clear x0 x3 a0 a1 a2
  have hbq : Below W.heap.size W (W1.drewN nq) := hb9.trans ((below_drewN W1 nq).mono hb9.size)
  have C := Lib.hid (show C9 (W1.drewN nq) z3 a from c9.below (below_drewN W1 nq))
  have WB := Lib.hid (HWD.out.below hbq)
  have HBQ := Lib.hid hbq
  clear c9 wb1 hb9 hbq
  generalize W1.drewN nq = W2 at C WB HBQ ⊢
  have a0 := C.out.c0
  have a2 := C.out.c2
  go_upto_region 3 with fail
  rw [HI.out, HN.out]
  have hkd := HKD.out
  have x3 := WB.out.wb.c3
  by_cases h1 : 1 < E.length
  · have h1i : (1 : Int) < (E.length : Int) := by omega
    go_upto_region 30 with fail
    clear x3 hkd a0 a2
    obtain ⟨r0, r1, r2, r3, f0, f1, f2, f3⟩ := row4 WB.out.all HE.out
    have l0 : ∀ W', (C5 W' zw 40 (ap b) (.pointer (some ⟨bh, 0, none⟩)) (.int .u64 (seed : Nat)) (.slice (some ⟨g, 0, none⟩) E.length cp) (.int .u32 last) ∧ W'.ownsRow w0.heap.size 37 4 (.slice (some ⟨g, 0, none⟩) E.length cp) E.length (E.flatMap cells4)) → W'.cell? ⟨zw, 0, none⟩ = some (ap b) := fun W' h => h.1.c0
    have l3 : ∀ W', (C5 W' zw 40 (ap b) (.pointer (some ⟨bh, 0, none⟩)) (.int .u64 (seed : Nat)) (.slice (some ⟨g, 0, none⟩) E.length cp) (.int .u32 last) ∧ W'.ownsRow w0.heap.size 37 4 (.slice (some ⟨g, 0, none⟩) E.length cp) E.length (E.flatMap cells4)) → W'.cell? ⟨zw, 3, none⟩ = some (.slice (some ⟨g, 0, none⟩) E.length cp) := fun W' h => h.1.c3
    have q1 : ∀ W', (C5 W' zw 40 (ap b) (.pointer (some ⟨bh, 0, none⟩)) (.int .u64 (seed : Nat)) (.slice (some ⟨g, 0, none⟩) E.length cp) (.int .u32 last) ∧ W'.ownsRow w0.heap.size 37 4 (.slice (some ⟨g, 0, none⟩) E.length cp) E.length (E.flatMap cells4)) → W'.cell? ⟨g, i * 4 + 1, none⟩ = some (.int .i64 (e.root : Int)) := fun W' h => (row4 h.2 HE.out).2.1
    have hi1 : (0 : Int) ≤ (i : Int) := by omega
    have hi2 : (i : Int) < (E.length : Int) := by omega
    clear r0 r1 r2 r3 f0 f1 f2 f3
    refine wp_region_noPanic ?_
    have hd : Below W2.heap.size W2 W2.drew := (Below.refl _ W2).drew
    have wd := WB.out.below hd
    refine wp_region_held_drew (S := fun W' => (C5 W' zw 40 (ap b) (.pointer (some ⟨bh, 0, none⟩)) (.int .u64 (seed : Nat)) (.slice (some ⟨g, 0, none⟩) E.length cp) (.int .u32 last) ∧ W'.ownsRow w0.heap.size 37 4 (.slice (some ⟨g, 0, none⟩) E.length cp) E.length (E.flatMap cells4))) (by kernel_rfl) ⟨wd.wb, wd.all⟩ (fun hH => ?_)
    have WC := Lib.hid wd
    have HBC := Lib.hid (HBQ.out.trans (hd.mono HBQ.out.size))
    clear hd wd WB HBQ C
    generalize W2.drew = Wc at WC HBC hH ⊢
    refine tkH ?_ 0 hH ?_ ?_; rotate_left
    · intro W' hS; go_simp; with_reducible rfl
    simp only [tkr]
    refine tkH ?_ 1 hH ?_ ?_; rotate_left
    · intro W' hS; go_simp; with_reducible rfl
    simp only [tkr]
    refine tkH ?_ 2 hH ?_ ?_; rotate_left
    · intro W' hS; go_simp; with_reducible rfl
    simp only [tkr]
    refine tkH ?_ 3 hH ?_ ?_; rotate_left
    · intro W' hS; go_simp; with_reducible rfl
    simp only [tkr]
    refine tkH ?_ 4 hH ?_ ?_; rotate_left
    · intro W' hS; go_simp; with_reducible rfl
    simp only [tkr]
    refine tkH ?_ 5 hH ?_ ?_; rotate_left
    · intro W' hS; go_simp; with_reducible rfl
    simp only [tkr]
    refine tkH ?_ 6 hH ?_ ?_; rotate_left
    · intro W' hS; go_simp; with_reducible rfl
    simp only [tkr]
    refine tkH ?_ 7 hH ?_ ?_; rotate_left
    · intro W' hS; go_simp; with_reducible rfl
    simp only [tkr]
    refine tkH ?_ 8 hH ?_ ?_; rotate_left
    · intro W' hS; go_simp; with_reducible rfl
    simp only [tkr]
    refine tkH ?_ 9 hH ?_ ?_; rotate_left
    · intro W' hS; go_simp; with_reducible rfl
    simp only [tkr]
    refine tkH ?_ 10 hH ?_ ?_; rotate_left
    · intro W' hS; go_simp; with_reducible rfl
    simp only [tkr]
    refine tkH ?_ 11 hH ?_ ?_; rotate_left
    · intro W' hS; go_simp; with_reducible rfl
    simp only [tkr]
    refine tkH ?_ 12 hH ?_ ?_; rotate_left
    · intro W' hS; go_simp; with_reducible rfl
    simp only [tkr]
    refine tkH ?_ 13 hH ?_ ?_; rotate_left
    · intro W' hS; go_simp; with_reducible rfl
    simp only [tkr]
    refine rdH 14 rfl (fun K hK => ?_)
    go_simp
    refine (drop1_bk e.root Wc WC.out.ar (by decide) (fun j => Nat.le_trans (holds_bound (E := E) (k := i) (by omega) j) (by decide)) (WC.out.lend HE.out)).mono ?_
    rintro x Wd ⟨⟨zz, rfl⟩, M3, hb3, hk3, hl3, hs3⟩
    have sp : C5 Wd zw 40 (ap b) (.pointer (some ⟨bh, 0, none⟩)) (.int .u64 (seed : Nat)) (.slice (some ⟨g, 0, none⟩) E.length cp) (.int .u32 last) ∧ Wd.ownsRow w0.heap.size 37 4 (.slice (some ⟨g, 0, none⟩) E.length cp) E.length (E.flatMap cells4) := ⟨WC.out.wb.kp hs3.kp WC.out.lo.2.2.2, hs3.kp.own WC.out.all (fun q hq => (WC.out.own q hq).1)⟩
    have H3 := Lib.hid (And.intro hb3 (And.intro hk3 (And.intro hl3 hs3)))
    clear hb3 hk3 hl3 hs3
    simp only
    refine hK.out _ _ ?_ (fun hH => ?_)
    · exact sp
    clear hK K hH
    refine wpAnyH_done (by kernel_rfl) ?_ _
    refine NoPanic.normal ?_
    clear l0 l3 q1
    have x3 := sp.1.c3
    have SP := Lib.hid sp
    clear sp
    have hw1 : IntKind.i64.wrap ((i : Int) + 1) = (i : Int) + 1 := IntWalk.i64_in _ (by omega)
    have hw2 : wrap64 ((i : Int) + 1) = (i : Int) + 1 := IntWalk.wrap64_in _ (by omega)
    go_wp2_with fail
    refine (delete_one g cp i w0.heap.size E Wd SP.out.2 hi (by omega) (fun y hy => by
      obtain ⟨Ay, cy, hey, _⟩ := (Rd.of_own (WC.out.row y hy)).form
      rw [hey]
      rfl)).mono ?_
    rintro x We ⟨rfl, hown, hke⟩
    obtain ⟨hb3, hk3, hl3, hs3⟩ := H3.out
    have hzg : ¬ zw = g := fun e => (WC.out.own g rfl).2.2 e.symm
    have wb9 := SP.out.1.kp hke hzg
    obtain ⟨u0, u1, u2, u3, u4, v0, v1, v2, v3, v4⟩ := wb9.all
    have wd9 := WC.out.erase HE.out hs3.ar (fun q hq => hq.elim .inl (fun e => .inr e.1)) hs3.kp hb3 hk3 hown hke
    have hlen : (E.eraseIdx i).length = E.length - 1 := List.length_eraseIdx_of_lt hi
    have FIN := Lib.hid (show Acted w0 W (We.setCell ⟨zw, 3, none⟩ (.slice (some ⟨g, 0, none⟩) (E.length - 1 : Nat) cp)) b bh seed zw hs M F g E from
      ⟨g, cp, M3, Fn F Wc Wd, last, E.eraseIdx i, by rw [hlen]; exact wd9, by omega, by omega, by omega,
        (((Kp.of_below HBC.out (fun q => F q ∨ q = bh ∨ q = g ∨ q = zw)).trans hs3.kp (fun q h => .inl (.inl h))).trans hke (fun q e => .inl (.inr (.inr (.inl e))))).trans (Kp.one We zw 3 _) (fun q e => .inl (.inr (.inr (.inr e)))),
        fun q hq => hq.elim .inl (fun e => .inr (Nat.le_trans HBC.out.size e.1))⟩)
    clear wb9 wd9 hlen hb3 hk3 hl3 hs3 hown hke x3 hw1 hw2
    go_wp2_with fail
    go_ret
    exact ⟨rfl, FIN.out⟩
  · have h1i : ¬ (1 : Int) < (E.length : Int) := by omega
    go_wp2_with fail
    go_ret
    exact ⟨rfl, g, cp, M, F, last, E, WB.out, HA.out.2.2.2.1, HA.out.2.2.2.2, Nat.le_add_right _ _, Kp.of_below HBQ.out _, fun q hq => .inl hq⟩
end
end Go.Proofs.YthcpjehkjhpjfaaGreat

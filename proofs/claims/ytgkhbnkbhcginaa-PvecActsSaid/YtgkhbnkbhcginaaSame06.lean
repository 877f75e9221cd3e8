/- Layer 6's law: a vector, what the document says of it, and whose it is; same. -/
import Derived.Test.YtgkhbnkbhcginaaOps06
import Derived.Test.YtgkhbnkbhcginaaRange06
import Derived.BigQuiet
namespace Go.Proofs.Ytgkhbnkbhcginaa
open Go.RowKit

/-- A vector, the values that the document says that it has, their slice, and the owner. -/
structure En where
  v : Vc
  l : Vs
  s : Value
  ow : Int
/-- .. as it is handed in and out. -/
abbrev eagg (e : En) : Value := .agg #[.int .i64 (e.v.n : Int), .int .i64 (e.v.root : Int), .int .i64 (e.v.tail : Int), e.s, .int .u32 e.ow]
section
variable {b most : Nat} {M : Cells} {F : Nat → Prop}
set_option maxRecDepth 100000 in
set_option maxHeartbeats 1600000 in
theorem vsame (e : En) (at' : Int) (w : World) (h : Ar w b most M F) (hv : VecIs M e.v e.l) (hrow : Rd w e.s e.l.length (e.l.flatMap cells3)) :
    Calls Try.prog 22 #[ap b, eagg e, .int .i64 at'] w fun x w' => x = .returned (.bool true) ∧ Below w.heap.size w w' := by
  obtain ⟨v, l, s, ow⟩ := e
  simp only at hv hrow
  have hn := hv.n
  have hle := hv.le
  obtain ⟨A, c, rfl, _⟩ := hrow.form
  have HA := Lib.hid h
  have HV := Lib.hid hv
  have HR := Lib.hid hrow
  have hb1 : Below w.heap.size w (w.alloc (.cells #[.int .i64 (v.n : Int), .int .i64 (v.root : Int), .int .i64 (v.tail : Int), .slice A l.length c, .int .u32 ow] 34)) := (Below.refl _ w).alloc (Nat.le_refl _) _
  have HB1 := Lib.hid hb1
  have HQ1 := Lib.hid (C5.new w 34 (.int .i64 (v.n : Int)) (.int .i64 (v.root : Int)) (.int .i64 (v.tail : Int)) (.slice A l.length c) (.int .u32 ow))
  clear h hv hrow hb1
  go_enter Try.func22, Try.ntmps22
  go_wp2_with fail
  have hvn : (v.n : Int) = (l.length : Int) := by rw [hn]
  have HSZ := Lib.hid (show Below w.heap.size w (w.alloc (.cells #[.int .i64 (v.n : Int), .int .i64 (v.root : Int), .int .i64 (v.tail : Int), .slice A l.length c, .int .u32 ow] 34)) from (Below.refl _ w).alloc (Nat.le_refl _) _)
  have HA1 := Lib.hid (HA.out.below HSZ.out)
  have HR1 := Lib.hid (HR.out.below HSZ.out)
  obtain ⟨w1, hw1⟩ : ∃ w1, w1 = w.alloc (.cells #[.int .i64 (v.n : Int), .int .i64 (v.root : Int), .int .i64 (v.tail : Int), .slice A l.length c, .int .u32 ow] 34) := ⟨_, rfl⟩
  rw [← hw1] at HSZ HA1 HR1 HQ1
  rw [hvn] at hw1
  rw [← hw1]
  clear hw1 HB1 HA HR
  obtain ⟨z, hz⟩ : ∃ z, z = w.heap.size := ⟨_, rfl⟩
  rw [← hz] at HQ1 ⊢
  have HZZ := Lib.hid hz
  clear hz
  obtain ⟨st, hst⟩ : ∃ st : Nat, (1 : Int) + (l.length : Int) / 40 = (st : Int) ∧ 1 ≤ st ∧ st ≤ 27 := ⟨1 + l.length / 40, by omega, by omega, by omega⟩
  rw [hst.1]
  have HST := Lib.hid hst.2
  have HN := Lib.hid hn
  clear hst hn hvn
  go_loopg [8, 9, 10] l.length (fun c' i8 _ _ wq => ∃ j : Nat, i8 = .int .i64 (j : Int) ∧ c' = l.length - j ∧ j ≤ l.length + 30 ∧ Below w1.heap.size w1 wq)
  case atStart => exact ⟨0, rfl, by omega, by omega, Below.refl _ _⟩
  case round =>
    obtain ⟨j, rfl, hj, hj2, hb⟩ := hrel
    have HB := Lib.hid hb
    have HQ := Lib.hid (HQ1.out.below hb)
    have HA2 := Lib.hid (HA1.out.below hb)
    have HR2 := Lib.hid (HR1.out.below hb)
    obtain ⟨c0, c1, c2, c3, c4, _⟩ := HQ.out.all
    clear hb
    by_cases h1 : j < l.length
    · obtain ⟨x, hx⟩ : ∃ x, l[j]? = some x := ⟨_, List.getElem?_eq_getElem h1⟩
      have HX := Lib.hid hx
      clear hx
      go_wp2_with fail
      refine (vGet v l j x wr HA2.out HV.out HX.out).mono ?_
      rintro e w4 ⟨rfl, hb4⟩
      have hbX : Below w4.heap.size w4 (w4.alloc (.cells #[.int .u8 x.1, .int .i64 x.2.1, .string x.2.2] 38)) := (Below.refl _ w4).alloc (Nat.le_refl _) _
      have hb5 := hb4.trans (hbX.mono hb4.size)
      have HQ5 := Lib.hid (HQ.out.below hb5)
      have HR5 := Lib.hid (HR2.out.below hb5)
      have HB5 := Lib.hid (HB.out.trans (hb5.mono HB.out.size))
      have HX5 := Lib.hid (C3.new w4 38 (.int .u8 x.1) (.int .i64 x.2.1) (.string x.2.2))
      clear hb4 hb5 hbX c0 c1 c2 c3 c4 HQ HA2 HR2
      go_wp2_with fail
      generalize w4.alloc (.cells #[.int .u8 x.1, .int .i64 x.2.1, .string x.2.2] 38) = w5 at HQ5 HR5 HB5 HX5 ⊢
      obtain ⟨k0, k1, k2⟩ := flat3_at HX.out
      obtain ⟨g, o, c', e, _, v0⟩ := HR5.out.at k0
      simp only [Value.slice.injEq, true_and] at e
      obtain ⟨rfl, rfl⟩ := e
      obtain ⟨g', o', c', e, _, v1⟩ := HR5.out.at k1
      simp only [Value.slice.injEq, Option.some.injEq, Addr.mk.injEq, and_true, true_and] at e
      obtain ⟨⟨rfl, rfl⟩, rfl⟩ := e
      obtain ⟨g', o', c', e, _, v2⟩ := HR5.out.at k2
      simp only [Value.slice.injEq, Option.some.injEq, Addr.mk.injEq, and_true, true_and] at e
      obtain ⟨⟨rfl, rfl⟩, rfl⟩ := e
      obtain ⟨c0, c1, c2, c3, c4, _⟩ := HQ5.out.all
      obtain ⟨x0, x1, x2, _⟩ := HX5.out.all
      have y1 : (0 : Int) ≤ (j : Int) := by omega
      have y2 : (j : Int) < (l.length : Int) := by omega
      rw [← Nat.add_assoc] at v1 v2
      have K0 := Gr.cell x0 HX5.out.lt
      have K1 := Gr.cell x1 HX5.out.lt
      have K2 := Gr.cell x2 HX5.out.lt
      have K3 := Gr.cell c3 HQ5.out.lt
      have K4 := Gr.cell v0 (World.block_lt_of_cell? w5 _ v0)
      have K5 := Gr.cell v1 (World.block_lt_of_cell? w5 _ v1)
      have K6 := Gr.cell v2 (World.block_lt_of_cell? w5 _ v2)
      clear k0 k1 k2 c0 c1 c2 c3 c4 x0 x1 x2 v0 v1 v2
      refine region_grown (by kernel_rfl) (by kernel_rfl) ?_
      repeat (go_big_quiet_step (fail))
      refine wpQuiet_nil ?_
      rintro _ ⟨g', rfl⟩
      go_wp2_with fail
      go_roundg (l.length - (j + st))
      case measure => have := HST.out; omega
      case rel => exact ⟨j + st, by have := HST.out; rw [show wrap64 ((j : Int) + (st : Int)) = ((j + st : Nat) : Int) from by rw [IntWalk.wrap64_in _ (by omega)]; omega], rfl, by have := HST.out; omega, HB5.out.trans (g'.grown.below.mono HB5.out.size)⟩
    · by_cases hr : at' < 0 ∨ (l.length : Int) ≤ at'
      · have hno := vGet_no v at' wr (b := b) (by rcases hr with h | h; exact .inl h; exact .inr (by have := HN.out; omega))
        go_wp2_with fail
        refine hno.mono ?_
        rintro e w4 ⟨rfl, hb4⟩
        have hb5 : Below wr.heap.size wr (w4.alloc (.cells #[.int .u8 0, .int .i64 0, .string ⟨#[]⟩] 38)) := hb4.alloc hb4.size _
        have HB5 := Lib.hid (HB.out.trans (hb5.mono HB.out.size))
        have HQ5 := Lib.hid (HQ.out.below hb5)
        clear hno hb4 hb5 c0 c1 c2 c3 c4 HQ HA2 HR2
        obtain ⟨c0, c1, c2, c3, c4, _⟩ := HQ5.out.all
        by_cases hneg : at' < 0
        · go_wp2_with fail
          go_ret
          exact ⟨rfl, HSZ.out.trans (HB5.out.mono HSZ.out.size)⟩
        · have hge : (l.length : Int) ≤ at' := hr.resolve_left hneg
          go_wp2_with fail
          go_ret
          exact ⟨rfl, HSZ.out.trans (HB5.out.mono HSZ.out.size)⟩
      · obtain ⟨i, rfl⟩ : ∃ i : Nat, at' = (i : Int) := ⟨at'.toNat, by omega⟩
        have hi : i < l.length := by omega
        obtain ⟨x, hx⟩ : ∃ x, l[i]? = some x := ⟨_, List.getElem?_eq_getElem hi⟩
        have HX := Lib.hid hx
        clear hx
        go_wp2_with fail
        refine (vGet v l i x wr HA2.out HV.out HX.out).mono ?_
        rintro e w4 ⟨rfl, hb4⟩
        have hbX : Below w4.heap.size w4 (w4.alloc (.cells #[.int .u8 x.1, .int .i64 x.2.1, .string x.2.2] 38)) := (Below.refl _ w4).alloc (Nat.le_refl _) _
        have hb5 := hb4.trans (hbX.mono hb4.size)
        have HQ5 := Lib.hid (HQ.out.below hb5)
        have HR5 := Lib.hid (HR2.out.below hb5)
        have HB5 := Lib.hid (HB.out.trans (hb5.mono HB.out.size))
        have HX5 := Lib.hid (C3.new w4 38 (.int .u8 x.1) (.int .i64 x.2.1) (.string x.2.2))
        clear hb4 hb5 hbX c0 c1 c2 c3 c4 HQ HA2 HR2
        obtain ⟨c0, c1, c2, c3, c4, _⟩ := HQ5.out.all
        have hng : ¬ (i : Int) < 0 := by omega
        have hlt : (i : Int) < (l.length : Int) := by omega
        go_wp2_with fail
        generalize w4.alloc (.cells #[.int .u8 x.1, .int .i64 x.2.1, .string x.2.2] 38) = w5 at HQ5 HR5 HB5 HX5 c0 c1 c2 c3 c4 ⊢
        obtain ⟨k0, k1, k2⟩ := flat3_at HX.out
        obtain ⟨g, o, c', e, _, v0⟩ := HR5.out.at k0
        simp only [Value.slice.injEq, true_and] at e
        obtain ⟨rfl, rfl⟩ := e
        obtain ⟨g', o', c', e, _, v1⟩ := HR5.out.at k1
        simp only [Value.slice.injEq, Option.some.injEq, Addr.mk.injEq, and_true, true_and] at e
        obtain ⟨⟨rfl, rfl⟩, rfl⟩ := e
        obtain ⟨g', o', c', e, _, v2⟩ := HR5.out.at k2
        simp only [Value.slice.injEq, Option.some.injEq, Addr.mk.injEq, and_true, true_and] at e
        obtain ⟨⟨rfl, rfl⟩, rfl⟩ := e
        obtain ⟨x0, x1, x2, _⟩ := HX5.out.all
        have y1 : (0 : Int) ≤ (i : Int) := by omega
        rw [← Nat.add_assoc] at v1 v2
        have K0 := Gr.cell x0 HX5.out.lt
        have K1 := Gr.cell x1 HX5.out.lt
        have K2 := Gr.cell x2 HX5.out.lt
        have K3 := Gr.cell c3 HQ5.out.lt
        have K4 := Gr.cell v0 (World.block_lt_of_cell? w5 _ v0)
        have K5 := Gr.cell v1 (World.block_lt_of_cell? w5 _ v1)
        have K6 := Gr.cell v2 (World.block_lt_of_cell? w5 _ v2)
        clear k0 k1 k2 c0 c1 c2 c3 c4 x0 x1 x2 v0 v1 v2
        refine region_grown (by kernel_rfl) (by kernel_rfl) ?_
        repeat (go_big_quiet_step (fail))
        refine wpQuiet_nil ?_
        rintro _ ⟨g', rfl⟩
        go_wp2_with fail
        go_ret
        exact ⟨rfl, HSZ.out.trans ((HB5.out.trans (g'.grown.below.mono HB5.out.size)).mono HSZ.out.size)⟩
end

end Go.Proofs.Ytgkhbnkbhcginaa

/- Package slice: Compare; the law's own 'of'. -/
import Derived.Test.YtjdpgehmkcdmfaaJoin07
import Derived.Test.YtjdpgehmkcdmfaaFill07
namespace Go.Proofs.Ytjdpgehmkcdmfaa
open Go.RowKit

theorem rd_lst {w : World} {A : Option Addr} {c : Nat} {l : Vs} (h : Rd w (.slice A l.length c) l.length (l.flatMap cells3)) : Lst w A l := by
  rcases h with ⟨e, hn, _⟩ | ⟨g, o, c', e, hc, hcell⟩
  · exact .inl (List.eq_nil_of_length_eq_zero hn)
  · by_cases hl : l = []
    · exact .inl hl
    · simp only [Value.slice.injEq] at e
      obtain ⟨rfl, _, _⟩ := e
      obtain ⟨x0, hx0⟩ : ∃ x, l[0]? = some x := ⟨_, List.getElem?_eq_getElem (List.length_pos_iff.2 hl)⟩
      refine .inr ⟨g, o, rfl, World.block_lt_of_cell? w _ (hcell _ _ (flat3_at hx0).1), fun i x hx => ?_⟩
      obtain ⟨f0, f1, f2⟩ := flat3_at hx
      exact ⟨hcell _ _ f0, by rw [Nat.add_assoc]; exact hcell _ _ f1, by rw [Nat.add_assoc]; exact hcell _ _ f2⟩

/-- Worlds that have grown out of this one. -/
structure Sw (wx W : World) : Prop where
  bel : Below wx.heap.size wx W
theorem Sw.grow {wx W W' : World} (h : Sw wx W) (hb : Below W.heap.size W W') : Sw wx W' := ⟨h.bel.trans (hb.mono h.bel.size)⟩
theorem Sw.drew {wx W : World} (h : Sw wx W) : Sw wx W.drew := ⟨h.bel.drew⟩

section
variable {b most : Nat} {M : Cells} {F : Nat → Prop}
set_option maxRecDepth 100000 in
set_option maxHeartbeats 1600000 in
theorem vcompare (v1 v2 : Vc) (l1 l2 : Vs) (w : World) (h : Ar w b most M F) (hv1 : VecIs M v1 l1) (hv2 : VecIs M v2 l2) :
    Calls Try.prog 38 #[ap b, vagg v1, vagg v2] w fun e w' => e = .returned (.int .i64 (lvcmp l1 l2)) ∧ Below w.heap.size w w' := by
  obtain ⟨n1, r1, t1⟩ := v1
  obtain ⟨n2, r2, t2⟩ := v2
  have hle1 := hv1.le
  have hle2 := hv2.le
  have hb : Below w.heap.size w ((w.alloc (.cells #[.int .i64 (n1 : Int), .int .i64 (r1 : Int), .int .i64 (t1 : Int)] 30)).alloc (.cells #[.int .i64 (n2 : Int), .int .i64 (r2 : Int), .int .i64 (t2 : Int)] 30)) := ((Below.refl _ w).alloc (Nat.le_refl _) _).alloc (by simp) _
  have q1 := (C3.new w 30 (.int .i64 (n1 : Int)) (.int .i64 (r1 : Int)) (.int .i64 (t1 : Int))).alloc (.cells #[.int .i64 (n2 : Int), .int .i64 (r2 : Int), .int .i64 (t2 : Int)] 30)
  have q2 := C3.new (w.alloc (.cells #[.int .i64 (n1 : Int), .int .i64 (r1 : Int), .int .i64 (t1 : Int)] 30)) 30 (.int .i64 (n2 : Int)) (.int .i64 (r2 : Int)) (.int .i64 (t2 : Int))
  rw [show (w.alloc (.cells #[.int .i64 (n1 : Int), .int .i64 (r1 : Int), .int .i64 (t1 : Int)] 30)).heap.size = w.heap.size + 1 by simp] at q2
  have HB := Lib.hid hb
  have HA := Lib.hid (h.below hb)
  have Q1 := Lib.hid q1
  have Q2 := Lib.hid q2
  have HV1 := Lib.hid hv1
  have HV2 := Lib.hid hv2
  clear h hv1 hv2 hb q1 q2
  go_enter Try.func38, Try.ntmps38
  go_wp2_with fail
  obtain ⟨z1, hz1⟩ : ∃ z, z = w.heap.size := ⟨_, rfl⟩
  obtain ⟨z2, hz2⟩ : ∃ z, z = w.heap.size + 1 := ⟨_, rfl⟩
  rw [← hz2] at Q2 ⊢
  rw [← hz1] at Q1 ⊢
  clear hz1 hz2
  generalize (w.alloc (.cells #[.int .i64 (n1 : Int), .int .i64 (r1 : Int), .int .i64 (t1 : Int)] 30)).alloc (.cells #[.int .i64 (n2 : Int), .int .i64 (r2 : Int), .int .i64 (t2 : Int)] 30) = wx at HB HA Q1 Q2 ⊢
  have HSX := Lib.hid (Sw.mk (Below.refl _ wx))
  have K1 := Lib.hid (fun W (h : Sw wx W) => (vall ⟨n1, r1, t1⟩ l1 W (HA.out.below h.bel) HV1.out : Calls Try.prog 33 #[ap b, .agg #[.int .i64 (n1 : Int), .int .i64 (r1 : Int), .int .i64 (t1 : Int)]] W (Told W l1)))
  have K2 := Lib.hid (fun W (h : Sw wx W) => (vall ⟨n2, r2, t2⟩ l2 W (HA.out.below h.bel) HV2.out : Calls Try.prog 33 #[ap b, .agg #[.int .i64 (n2 : Int), .int .i64 (r2 : Int), .int .i64 (t2 : Int)]] W (Told W l2)))
  obtain ⟨a0, a1, a2, _⟩ := Q1.out.all
  obtain ⟨b0, b1, b2, _⟩ := Q2.out.all
  go_region_with (first
    | (go_at_call 64; refine (lists _ _ l1 l2 _ _ _ (rd_lst (HR1.out.below HB2.out)) (rd_lst HR2.out) (by omega) (by omega)).mono ?_; rintro e wl ⟨rfl, gl⟩; have HE := Lib.hid (HS2.out.grow gl.below).bel; clear gl)
    | (go_at_call 64; refine (lists _ _ l1 l2 _ _ _ (rd_lst HR1.out) (rd_lst (HR2.out.below HB1.out)) (by omega) (by omega)).mono ?_; rintro e wl ⟨rfl, gl⟩; have HE := Lib.hid (HS1.out.grow gl.below).bel; clear gl)
    | (go_at_call 33; (with_reducible_and_instances refine (K2.out _ HS1.out).mono ?_); rintro e w2 ⟨y, rfl, hoy, hby⟩; obtain ⟨Ay, my, rfl, _⟩ := (Rd.of_own hoy).form; have HR2 := Lib.hid (Rd.of_own hoy); have HB2 := Lib.hid hby; have HS2 := Lib.hid (HS1.out.grow hby); clear hoy hby)
    | (go_at_call 33; (with_reducible_and_instances refine (K1.out _ HS2.out).mono ?_); rintro e w2 ⟨y, rfl, hoy, hby⟩; obtain ⟨Az, mz, rfl, _⟩ := (Rd.of_own hoy).form; have HR1 := Lib.hid (Rd.of_own hoy); have HB1 := Lib.hid hby; have HS1 := Lib.hid (HS2.out.grow hby); clear hoy hby)
    | (go_at_call 33; (with_reducible_and_instances refine (K1.out _ HSX.out.drew).mono ?_); rintro e w1 ⟨y, rfl, hoy, hby⟩; obtain ⟨Az, mz, rfl, _⟩ := (Rd.of_own hoy).form; have HR1 := Lib.hid (Rd.of_own hoy); have HS1 := Lib.hid (HSX.out.drew.grow hby); have b0 := (Q2.out.below HS1.out.bel).c0; have b1 := (Q2.out.below HS1.out.bel).c1; have b2 := (Q2.out.below HS1.out.bel).c2; clear hoy hby)
    | (go_at_call 33; (with_reducible_and_instances refine (K2.out _ HSX.out.drew).mono ?_); rintro e w1 ⟨y, rfl, hoy, hby⟩; obtain ⟨Ay, my, rfl, _⟩ := (Rd.of_own hoy).form; have HR2 := Lib.hid (Rd.of_own hoy); have HS2 := Lib.hid (HSX.out.drew.grow hby); have a0 := (Q1.out.below HS2.out.bel).c0; have a1 := (Q1.out.below HS2.out.bel).c1; have a2 := (Q1.out.below HS2.out.bel).c2; clear hoy hby))
  all_goals
    go_wp2_with fail
    go_ret
    exact ⟨rfl, HB.out.trans (HE.out.mono HB.out.size)⟩
end

theorem tinfo : (Try.prog.info? 110).map (fun i => (i.zero, i.size, i.bytes)) = some (some (.agg #[.int .u8 0, .int .i64 0, .string ⟨#[]⟩]), 3, 32) := by kernel_rfl
/-- In the loop of 'of'. -/
structure Ot (w wr : World) (x : Value) (n : Nat) (xs : Vs) : Prop where
  bel : Below w.heap.size w wr
  own : wr.ownsRow w.heap.size 110 3 x n (xs.flatMap cells3)
set_option maxRecDepth 100000 in
set_option maxHeartbeats 1600000 in
theorem vof (A : Option Addr) (l : Vs) (c : Nat) (w : World) (hl : Lst w A l) (hn : l.length ≤ 1000000) :
    Calls Try.prog 40 #[.slice A l.length c] w fun e w' => ∃ A' c', e = .returned (.slice A' l.length c') ∧ Lst w' A' l ∧ Below w.heap.size w w' := by
  obtain ⟨i1, hi1, hy0, hy1, hy2⟩ := info_parts tinfo
  have HL := Lib.hid hl
  have HO := Lib.hid (Ot.mk (w := w) (x := .slice none 0 0) (n := 0) (xs := []) (Below.refl _ _) (World.ownsRow_nil _ _ _ _))
  clear hl
  go_enter Try.func40, Try.ntmps40
  go_wp2_with fail
  go_loopg [3, 8] l.length (fun c' s i wr => ∃ j : Nat, j + c' = l.length ∧ i = .int .i64 j ∧ Ot w wr s j (l.take j))
  case atStart => exact ⟨0, by omega, rfl, HO.out⟩
  case round =>
    obtain ⟨j, hj, rfl, hO⟩ := hrel
    have HO2 := Lib.hid hO
    obtain ⟨A4, m4, rfl, _⟩ := (Rd.of_own hO.own).form
    have hs := hO.bel.size
    clear hO HO
    by_cases h1 : j < l.length
    · obtain ⟨x, hx⟩ : ∃ x, l[j]? = some x := ⟨_, List.getElem?_eq_getElem h1⟩
      obtain ⟨g, o, rfl, hg, x0, x1, x2⟩ := (HL.out.below HO2.out.bel).at hx
      have ht := Lib.hid (show l.take j ++ [x] = l.take (j + 1) by rw [List.take_add_one, hx]; rfl)
      have HJ := Lib.hid (And.intro hj h1)
      have y3 : (0 : Int) ≤ (j : Int) := by omega
      have y4 : (j : Int) < (l.length : Int) := by omega
      clear hx hj
      go_wp2_with (at_builtin; refine wpList_append_rd rfl _ _ 77 rfl w.heap.size 110 i1 _ 3 32 Try.underlying77 hi1 hy0 hy1 hy2 rfl (by decide) (.slice A4 j m4) j ((l.take j).flatMap cells3) rfl ?k0 _ 1 [.int .u8 x.1, .int .i64 x.2.1, .string x.2.2] rfl ?k1 rfl (by simp [Value.oneCell']) ?k2 ?k3 ?k4 ?_)
      case k0 => exact (Kp.of_below (((Below.refl _ wr).alloc (Nat.le_refl _) _).alloc (by simp) _) (fun _ => False)).own HO2.out.own (fun _ _ => id)
      case k1 => exact rd_three _ _ _ _ _ _ (by simp)
      case k2 => unfold maxLen; omega
      case k3 => omega
      case k4 => first | omega | (simp; omega)
      intro v' w' hown hg' hat
      obtain ⟨A3, m3, rfl, _⟩ := (Rd.of_own hown).form
      have hb3 : Below wr.heap.size wr ((wr.alloc (.cells #[.int .u8 x.1, .int .i64 x.2.1, .string x.2.2] 38)).alloc (.cells #[.int .u8 x.1, .int .i64 x.2.1, .string x.2.2] 110)) := ((Below.refl _ wr).alloc (Nat.le_refl _) _).alloc (by simp) _
      have hB := HO2.out.bel.trans (hb3.mono hs)
      have HO3 := Lib.hid (show Ot w w' (.slice A3 (j + 1) m3) (j + 1) (l.take (j + 1)) from ⟨hB.grown hg' hB.size (fun q e => (HO2.out.own.lt q e).1), by rw [← ht.out, List.flatMap_append, List.flatMap_singleton]; exact hown⟩)
      clear hown hg' hat hb3 hB HO2
      go_wp2_with fail
      go_roundg (l.length - (j + 1))
      case measure => have := HJ.out; omega
      case rel => exact ⟨j + 1, by have := HJ.out; omega, by go_num, HO3.out⟩
    · obtain rfl : j = l.length := by omega
      have HE := Lib.hid (show Lst wr A4 l from rd_lst (c := m4) (by have := Rd.of_own HO2.out.own; rw [List.take_length] at this; exact this))
      have HB := Lib.hid HO2.out.bel
      clear HO2
      go_wp2_with fail
      go_ret
      exact ⟨_, _, rfl, HE.out, HB.out⟩

end Go.Proofs.Ytjdpgehmkcdmfaa

/- Package slice: From. -/
import Derived.Test.YtjdpgehmkcdmfaaOwn06
namespace Go.Proofs.Ytjdpgehmkcdmfaa
open Go.RowKit

section
variable {b most : Nat} {M : Cells} {F : Nat → Prop}
/-- In the loop: so many are in. -/
structure Fr (w wr : World) (b most : Nat) (M : Cells) (F : Nat → Prop) (z4 z6 : Nat) (lv : Vs) (j : Nat) : Prop where
  ex : ∃ v ks M' F', Rn w wr b most M' F F' ∧ Mine (most + 1) M M' 4294967295 v (lv.take j) ks ∧ C3 wr z6 30 (.int .i64 (v.n : Int)) (.int .i64 (v.root : Int)) (.int .i64 (v.tail : Int)) ∧ C3 wr z4 30 (.int .i64 0) (.int .i64 0) (.int .i64 0) ∧ ¬ F' z4 ∧ ¬ F' z6
/-- What From answers. -/
def Fromd (w w' : World) (b most : Nat) (M : Cells) (F : Nat → Prop) (lv : Vs) (e : Ending) : Prop :=
  (∃ v ks M', e = .returned (.tuple #[vagg v, .int .i64 0]) ∧ Mine (most + 1) M M' 4294967295 v lv ks ∧ Stp w w' b most M' F) ∨
  (∃ er : Int, e = .returned (.tuple #[vagg ⟨0, 0, 0⟩, .int .i64 er]) ∧ Stp w w' b most M F ∧ ((er = 12 ∧ 1024 < lv.length) ∨ (er = 5 ∧ most < live (most + 1) M + 35)))
set_option maxRecDepth 100000 in
set_option maxHeartbeats 1600000 in
theorem vfrom (lv : Vs) (vv : Value) (w : World) (h : Ar w b most M F) (hv : Rd w vv lv.length (lv.flatMap cells3)) (hvF : ∀ k, vv.ownBlock = some k → ¬ F k) (hr : ∀ j, rf (M j) ≤ 1000) :
    Calls Try.prog 31 #[ap b, vv] w fun e w' => Fromd w w' b most M F lv e := by
  obtain ⟨A, c, rfl, hc⟩ := hv.form
  have HF := Lib.hid (show ∀ q, F q → q < w.heap.size from fun q hq => h.lt hq)
  have HV := Lib.hid hv
  have HR := Lib.hid hr
  have HVF := Lib.hid hvF
  have q4 := (C3.new w 30 (.int .i64 0) (.int .i64 0) (.int .i64 0)).alloc (.cells #[.int .i64 0, .int .i64 0, .int .i64 0] 30)
  have q6 := C3.new (w.alloc (.cells #[.int .i64 0, .int .i64 0, .int .i64 0] 30)) 30 (.int .i64 0) (.int .i64 0) (.int .i64 0)
  rw [show (w.alloc (.cells #[.int .i64 0, .int .i64 0, .int .i64 0] 30)).heap.size = w.heap.size + 1 by simp] at q6
  have hb : Below w.heap.size w ((w.alloc (.cells #[.int .i64 0, .int .i64 0, .int .i64 0] 30)).alloc (.cells #[.int .i64 0, .int .i64 0, .int .i64 0] 30)) := ((Below.refl _ w).alloc (Nat.le_refl _) _).alloc (by simp) _
  have HS := Lib.hid (Fr.mk (lv := lv) (j := 0) ⟨⟨0, 0, 0⟩, [], M, F, Rn.below h hb, by rw [List.take_zero]; exact Mine.empty _ M _, q6, q4, fun hf => by have := HF.out _ hf; omega, fun hf => by have := HF.out _ hf; omega⟩)
  have HLT := Lib.hid (show (w.heap.size ≤ w.heap.size ∧ w.heap.size ≤ w.heap.size + 1) from by omega)
  clear h hv hr hvF q4 q6 hb
  go_enter Try.func31, Try.ntmps31
  go_wp2_with fail
  obtain ⟨z4, hz4⟩ : ∃ z, z = w.heap.size := ⟨_, rfl⟩
  obtain ⟨z6, hz6⟩ : ∃ z, z = w.heap.size + 1 := ⟨_, rfl⟩
  rw [← hz6] at HS ⊢
  rw [← hz4] at HS ⊢
  have HZ := Lib.hid (show w.heap.size ≤ z4 ∧ w.heap.size ≤ z6 ∧ z4 ≠ z6 from by omega)
  clear hz4 hz6 HLT
  go_loopg [14] lv.length (fun c' i wr => ∃ j : Nat, j + c' = lv.length ∧ i = .int .i64 j ∧ Fr w wr b most M F z4 z6 lv j)
  case atStart => exact ⟨0, by omega, rfl, HS.out⟩
  case round =>
    obtain ⟨j, hj, rfl, ⟨v, ks, M', F', hR, hM, h6, h4, n4, n6⟩⟩ := hrel
    by_cases h1 : j < lv.length
    · obtain ⟨x, hx⟩ : ∃ x, lv[j]? = some x := ⟨_, List.getElem?_eq_getElem h1⟩
      obtain ⟨g, o, rfl, hg, x0, x1, x2⟩ := rd3 (hR.kp.rd HV.out HVF.out) hx
      have hl6 := h6.lt
      obtain ⟨a0, a1, a2, _⟩ := h6.all
      have ht := Lib.hid (show lv.take j ++ [x] = lv.take (j + 1) by rw [List.take_add_one, hx]; rfl)
      have hlj := Lib.hid (show (lv.take j).length = j by rw [List.length_take]; omega)
      have hbw : Below wr.heap.size wr (wr.alloc (.cells #[.int .u8 x.1, .int .i64 x.2.1, .string x.2.2] 38)) := (Below.refl _ wr).alloc (Nat.le_refl _) _
      have H4 := Lib.hid (h4.below hbw)
      have H6 := Lib.hid (h6.below hbw)
      have HRN := Lib.hid ((hR.mine (Kp.of_below hbw (fun _ => False)) (fun _ hf => hf.elim)))
      have HM := Lib.hid hM
      have HRM := Lib.hid (fun q => hM.rfb (by decide) HR.out q)
      have N4 := Lib.hid n4
      have N6 := Lib.hid n6
      clear h4 h6 hR hM hx hg n4 n6
      by_cases hlt : j < 1024
      · go_wp2_with fail
        refine (push_mine v (lv.take j) ks x 4294967295 _ HRN.out.ar HM.out (by decide) (by rw [hlj.out]; exact hlt) HRM.out).mono ?_
        rintro e w2 (⟨v', ks', M2, rfl, hm2, hs2⟩ | ⟨rfl, hb2, hfull⟩)
        · have H42 := Lib.hid (H4.out.kp hs2.kp N4.out)
          have h62 := H6.out.kp hs2.kp N6.out
          have hl62 := h62.lt
          have H62 := Lib.hid h62
          obtain ⟨b0, b1, b2, f0, f1, f2⟩ := h62.all
          have HR2 := Lib.hid (HRN.out.stp hs2)
          have HM2 := Lib.hid (ht.out ▸ hm2)
          have hnF := Lib.hid (show ∀ z, z < (wr.alloc (.cells #[.int .u8 x.1, .int .i64 x.2.1, .string x.2.2] 38)).heap.size → ¬ F' z → ¬ Fn F' (wr.alloc (.cells #[.int .u8 x.1, .int .i64 x.2.1, .string x.2.2] 38)) w2 z from fun z hz hn hf => hf.elim hn (fun hf => by omega))
          have L4 := Lib.hid (hnF.out z4 H4.out.lt N4.out)
          have L6 := Lib.hid (hnF.out z6 H6.out.lt N6.out)
          clear hs2 hm2 h62 x0 x1 x2 a0 a1 a2 hl6
          go_wp2_with fail
          go_roundg (lv.length - (j + 1))
          case measure => omega
          case rel =>
            refine ⟨j + 1, by omega, by go_num, ⟨v', ks', M2, _, HR2.out.mine (G := fun q => q = z6) ?_ (fun q e => e ▸ ⟨HZ.out.2.1, L6.out⟩), HM2.out, ?_, ?_, L4.out, L6.out⟩⟩
            · exact ((((Kp.refl (fun q => q = z6) w2).setCell (.inl rfl) _).setCell (.inl rfl) _).setCell (.inl rfl) _).alloc _
            · exact (((H62.out.set0 _).set1 _).set2 _).alloc _
            · exact (((H42.out.other HZ.out.2.2 _).other HZ.out.2.2 _).other HZ.out.2.2 _).alloc _
        · have H42 := Lib.hid (H4.out.below hb2)
          have h62 := H6.out.below hb2
          have hl62 := h62.lt
          obtain ⟨b0, b1, b2, f0, f1, f2⟩ := h62.all
          have HR2 := Lib.hid (HRN.out.mine (Kp.of_below hb2 (fun _ => False)) (fun _ hf => hf.elim))
          have HFL := Lib.hid hfull
          clear hb2 hfull h62 x0 x1 x2 a0 a1 a2 hl6
          have hbw2 : Below w2.heap.size w2 (w2.alloc (.cells #[.int .i64 0, .int .i64 0, .int .i64 0] 30)) := (Below.refl _ w2).alloc (Nat.le_refl _) _
          have H43 := Lib.hid (H42.out.below hbw2)
          have HR3 := Lib.hid (HR2.out.mine (Kp.of_below hbw2 (fun _ => False)) (fun _ hf => hf.elim))
          clear hbw2
          go_wp2_with fail
          refine (drop_mine v (lv.take j) ks 4294967295 _ HR3.out.ar HM.out HRM.out).mono ?_
          rintro e w3 ⟨rfl, hs3⟩
          have h44 := H43.out.kp hs3.kp N4.out
          obtain ⟨d0, d1, d2, g0, g1, g2⟩ := h44.all
          have HR4 := Lib.hid (HR3.out.stp hs3)
          have L4 := Lib.hid (show ¬ Fn F' (w2.alloc (.cells #[.int .i64 0, .int .i64 0, .int .i64 0] 30)) w3 z4 from fun hf => hf.elim N4.out (fun hf => by have := H43.out.lt; omega))
          clear hs3 h44 b0 b1 b2 f0 f1 f2
          go_wp2_with fail
          refine bodyPost_ret (v := .tuple #[vagg ⟨0, 0, 0⟩, .int .i64 5]) (by simp [results, Try.results31, go_sem, vagg, d0, d1, d2]) rfl (.inr ⟨5, rfl, (HR4.out.mine (G := fun q => q = z4) ?_ (fun q e => e ▸ ⟨HZ.out.1, L4.out⟩)).fin HF.out, .inr ⟨rfl, ?_⟩⟩)
          · exact (((Kp.refl (fun q => q = z4) w3).setCell (.inl rfl) _).setCell (.inl rfl) _).setCell (.inl rfl) _
          · have h1 := HM.out.lv
            have h2 := HM.out.count
            have h3 := HFL.out
            omega
      · have hvn := Lib.hid (show 1024 ≤ v.n by rw [HM.out.n, hlj.out]; omega)
        go_wp2_with fail
        refine (vPush_long v x 4294967295 _ _ hvn.out).mono ?_
        rintro e w2 ⟨rfl, hb2⟩
        have H42 := Lib.hid (H4.out.below hb2)
        have h62 := H6.out.below hb2
        have hl62 := h62.lt
        obtain ⟨b0, b1, b2, f0, f1, f2⟩ := h62.all
        have HR2 := Lib.hid (HRN.out.mine (Kp.of_below hb2 (fun _ => False)) (fun _ hf => hf.elim))
        clear hb2 h62 x0 x1 x2 a0 a1 a2 hl6
        have hbw2 : Below w2.heap.size w2 (w2.alloc (.cells #[.int .i64 0, .int .i64 0, .int .i64 0] 30)) := (Below.refl _ w2).alloc (Nat.le_refl _) _
        have H43 := Lib.hid (H42.out.below hbw2)
        have HR3 := Lib.hid (HR2.out.mine (Kp.of_below hbw2 (fun _ => False)) (fun _ hf => hf.elim))
        clear hbw2
        go_wp2_with fail
        refine (drop_mine v (lv.take j) ks 4294967295 _ HR3.out.ar HM.out HRM.out).mono ?_
        rintro e w3 ⟨rfl, hs3⟩
        have h44 := H43.out.kp hs3.kp N4.out
        obtain ⟨d0, d1, d2, g0, g1, g2⟩ := h44.all
        have HR4 := Lib.hid (HR3.out.stp hs3)
        have L4 := Lib.hid (show ¬ Fn F' (w2.alloc (.cells #[.int .i64 0, .int .i64 0, .int .i64 0] 30)) w3 z4 from fun hf => hf.elim N4.out (fun hf => by have := H43.out.lt; omega))
        clear hs3 h44 b0 b1 b2 f0 f1 f2
        go_wp2_with fail
        refine bodyPost_ret (v := .tuple #[vagg ⟨0, 0, 0⟩, .int .i64 12]) (by simp [results, Try.results31, go_sem, vagg, d0, d1, d2]) rfl (.inr ⟨12, rfl, (HR4.out.mine (G := fun q => q = z4) ?_ (fun q e => e ▸ ⟨HZ.out.1, L4.out⟩)).fin HF.out, .inl ⟨rfl, by omega⟩⟩)
        exact (((Kp.refl (fun q => q = z4) w3).setCell (.inl rfl) _).setCell (.inl rfl) _).setCell (.inl rfl) _
    · obtain rfl : j = lv.length := by omega
      rw [List.take_length] at hM
      have H4 := Lib.hid h4
      have HM := Lib.hid hM
      have HRN := Lib.hid hR
      have N4 := Lib.hid n4
      obtain ⟨a0, a1, a2, _⟩ := h6.all
      obtain ⟨d0, d1, d2, g0, g1, g2⟩ := h4.all
      clear h4 h6 hR hM n4 n6
      go_wp2_with fail
      refine bodyPost_ret (v := .tuple #[vagg v, .int .i64 0]) (by simp [results, Try.results31, go_sem, vagg, d0, d1, d2]) rfl (.inl ⟨v, ks, M', rfl, HM.out, (HRN.out.mine (G := fun q => q = z4) ?_ (fun q e => e ▸ ⟨HZ.out.1, N4.out⟩)).fin HF.out⟩)
      exact (((Kp.refl (fun q => q = z4) wr).setCell (.inl rfl) _).setCell (.inl rfl) _).setCell (.inl rfl) _
end

end Go.Proofs.Ytjdpgehmkcdmfaa

/- PvecRoom: a vector of any length takes few cells; without room nothing is made; with room it is. For every n and room. -/
import Derived.Test.YtjdpgehmkcdmfaaMakes06
import Derived.Test.YtjdpgehmkcdmfaaSetR06
import Derived.Test.YtjdpgehmkcdmfaaUnused04
namespace Go.Proofs.Ytjdpgehmkcdmfaa
open Go.RowKit

/-- While the arena is filled: so many cells can still be made; what was there is as it was. -/
structure Fl (w wr : World) (b z : Nat) (M0 : Cells) (v : Vc) (c : Nat) : Prop where
  ex : ∃ M F, Lone w wr b 4096 M F ∧ (∀ x, M0 x ≠ none → M x = M0 x) ∧ (∀ q, rf (M q) ≤ 1) ∧ C3 wr z 30 (.int .i64 (v.n : Int)) (.int .i64 (v.root : Int)) (.int .i64 (v.tail : Int)) ∧ ¬ F z ∧ live (4096 + 1) M + c = 4096
theorem room6_of (n : Int) : ∃ k : Nat, k < 12 ∧ wrap64 ((IntKind.u64.wrap n).tmod 12) = k := by
  have h0 : 0 ≤ IntKind.u64.wrap n := by rw [IntKind.wrap_u64]; omega
  rw [Int.tmod_eq_emod_of_nonneg h0]
  have h1 : 0 ≤ IntKind.u64.wrap n % 12 := by omega
  have h2 : IntKind.u64.wrap n % 12 < 12 := by omega
  rw [IntWalk.wrap64_in (IntKind.u64.wrap n % 12) (by omega)]
  exact ⟨(IntKind.u64.wrap n % 12).toNat, by omega, by omega⟩
theorem Fl.made {w wr w2 : World} {b z : Nat} {M0 M : Cells} {v : Vc} {F : Nat → Prop} {c i : Nat} (hL : Lone w wr b 4096 M F) (hs : ∀ x, M0 x ≠ none → M x = M0 x) (hr : ∀ q, rf (M q) ≤ 1) (hc : C3 wr z 30 (.int .i64 (v.n : Int)) (.int .i64 (v.root : Int)) (.int .i64 (v.tail : Int))) (hF : ¬ F z)
    (hl : live (4096 + 1) M + (c + 1) = 4096) (i2 : i ≤ 4096) (i3 : M i = none) (ha : Ar w2 b 4096 (upd M i (some (⟨0, 0, 0, [], []⟩, 1))) (Fn F wr w2)) (hk : Kp F wr w2) : Fl w w2 b z M0 v c := by
  refine ⟨_, _, hL.step ha hk, fun x hx => ?_, fun q => ?_, hc.kp hk hF, fun hf => hf.elim hF (fun hf => by have := hc.lt; omega), ?_⟩
  · have hxi : x ≠ i := by
      rintro rfl
      have := hs x hx
      rw [i3] at this
      exact hx this.symm
    rw [upd_other _ _ hxi]
    exact hs x hx
  · by_cases e : q = i
    · subst e; rw [upd_same]; exact Nat.le_refl _
    · rw [upd_other _ _ e]; exact hr q
  · rw [live_new i2 i3]; omega

set_option maxRecDepth 100000 in
set_option maxHeartbeats 1600000 in
theorem walk6 (n room : Int) (w : World) : Calls Try.prog 4 #[.int .i64 n, .int .i64 room] w fun e w' => e = .returned (.bool true) ∧ Below w.heap.size w w' := by
  go_enter Try.func4, Try.ntmps4
  go_wp2_with fail
  refine (lives6 _).mono ?_
  rintro e w1 ⟨rfl, hb1⟩
  have HB1 := Lib.hid hb1
  clear hb1
  obtain ⟨k, hk1, hk⟩ := len6_of n
  go_wp2_with fail
  refine (anew 4096 w1 (by omega) (by omega)).mono ?_
  rintro e w2 ⟨rfl, ha, hb⟩
  have HL2 := Lib.hid (show Lone w w2 w1.heap.size 4096 (fun _ => none) (fun q => q = w1.heap.size) from ⟨ha, HB1.out.trans (hb.mono HB1.out.size), fun q e => by have := HB1.out.size; omega⟩)
  obtain ⟨b, hbb⟩ : ∃ b, b = w1.heap.size := ⟨_, rfl⟩
  have HBL := Lib.hid (show ¬ w2.heap.size = b from by have := ha.blt; omega)
  rw [← hbb] at HL2 ⊢
  clear hbb ha hb
  have HR := Lib.hid (Rm.mk (w := w) (wr := w2.alloc (.cells #[.int .i64 0, .int .i64 0, .int .i64 0] 30)) (b := b) (z := w2.heap.size) (j := 0) ⟨⟨0, 0, 0⟩, [], _, _, HL2.out.alloc _, Mine.empty _ _ _, C3.new w2 _ _ _ _, HBL.out, HL2.out.bel.size⟩)
  clear HBL HL2
  go_wp2_with fail
  clear hk
  generalize w2.alloc (.cells #[.int .i64 0, .int .i64 0, .int .i64 0] 30) = w3 at HR ⊢
  obtain ⟨z, hz⟩ : ∃ z, z = w2.heap.size := ⟨_, rfl⟩
  rw [← hz] at HR ⊢
  clear hz
  go_loopg [7, 30] k (fun c' er i wr => ∃ j : Nat, j + c' = k ∧ i = .int .i64 j ∧ er = .int .i64 0 ∧ Rm w wr b z j)
  case atStart => exact ⟨0, by omega, rfl, rfl, HR.out⟩
  case round =>
    obtain ⟨j, hj, rfl, rfl, ⟨v, ks, M, F, hL, hM, hc, hF, hwz⟩⟩ := hrel
    by_cases h1 : j < k
    · obtain ⟨a0, a1, a2, f0, f1, f2⟩ := hc.all
      have HL := Lib.hid hL
      have HM := Lib.hid hM
      have HC := Lib.hid hc
      have HF := Lib.hid hF
      have HJ := Lib.hid (And.intro hj h1)
      have hb' : Below wr.heap.size wr wr.drew := (Below.refl _ wr).drew
      have HLd := Lib.hid (hL.below hb')
      have HCd := Lib.hid (hc.below hb')
      have HLV := Lib.hid (show live (4096 + 1) M ≤ 33 from by have h1 := hM.count; have h2 := hM.lv; rw [live_zero fun _ => rfl] at h2; omega)
      clear hL hM hc hF hj hb'
      go_wp2_with fail
      go_region_with (first
        | (go_at_call 24; refine (gnumber6 j _).mono ?_; rintro e w4 ⟨rfl, g4⟩; have HL4 := Lib.hid (HLd.out.below g4.below); have HC4 := Lib.hid (HCd.out.below g4.below); obtain ⟨b0, b1, b2, _⟩ := HC4.out.all; clear g4)
        | (go_at_call 14; refine (push_mine v (numL j) ks (2, (j : Int), ⟨#[]⟩) 1 _ HL4.out.ar HM.out (by decide) (by rw [numL_length]; have := HJ.out; omega) (fun q => HM.out.rfb (by decide) (fun _ => Nat.zero_le _) q)).mono ?_; rintro e w5 hpush; obtain ⟨v', ks', M', rfl, hm5, hs5⟩ := hpush.resolve_right (fun h => by have := h.2.2; have := HLV.out; omega); have HL5 := Lib.hid (HL4.out.stp6 hs5); have HM5 := Lib.hid hm5; have HC5 := Lib.hid (HC4.out.kp hs5.kp HF.out); have HF5 := Lib.hid (show ¬ Fn F w4 w5 z from fun hf => hf.elim HF.out (fun hf => by have := HC4.out.lt; omega)); obtain ⟨d0, d1, d2, g0, g1, g2⟩ := HC5.out.all; clear hs5 hm5))
      all_goals
        go_wp2_with fail
        go_roundg (k - (j + 1))
        case measure => have := HJ.out; omega
        case rel =>
          refine ⟨j + 1, by have := HJ.out; omega, by go_num, rfl, ⟨v', ks', M', _, ((HL5.out.set hwz HF5.out _).set hwz HF5.out _).set hwz HF5.out _, by rw [numL_succ]; exact HM5.out, ((HC5.out.set0 _).set1 _).set2 _, HF5.out, hwz⟩⟩
    · obtain rfl : j = k := by omega
      have hcnt := hM.count
      have hlv := hM.lv
      rw [live_zero fun _ => rfl, Nat.zero_add] at hlv
      obtain ⟨a0, a1, a2, f0, f1, f2⟩ := hc.all
      obtain ⟨lv, hl⟩ : ∃ lv, lv = live (4096 + 1) M := ⟨_, rfl⟩
      have hlk : lv ≤ j / 16 + 3 := by have := hcnt.2.1; rw [numL_length] at this; omega
      have hvn : v.n = j := hM.n.trans (numL_length j)
      have HL := Lib.hid hL
      have HM := Lib.hid hM
      have HC := Lib.hid hc
      clear hL hM hc hcnt hlv
      go_wp2_with fail
      refine (alive b 4096 M F _ HL.out.ar).mono ?_
      rintro e w' ⟨rfl, rfl⟩
      rw [← hl]
      have hvn' : ((v.n : Nat) : Int) = (j : Int) := by rw [hvn]
      have hcmp : ¬ ((j : Int) / 16 + 3 < (lv : Int)) := by omega
      have HLV := Lib.hid hl
      clear hl
      by_cases hj0 : j = 0
      · subst hj0
        obtain ⟨vn, vr, vt⟩ := v
        obtain ⟨hr0, ht0⟩ := HM.out.nil rfl
        obtain rfl : vn = 0 := hvn
        obtain rfl : vr = 0 := hr0
        obtain rfl : vt = 0 := ht0
        have hlv0 : lv = 0 := by
          have h1 := HM.out.lv
          rw [live_zero fun _ => rfl] at h1
          have h2 := HLV.out
          rw [h1] at h2
          simpa [ids] using h2
        subst hlv0
        have HFL := Lib.hid (Fl.mk (w := w) (wr := wr) (b := b) (z := z) (M0 := M) (v := ⟨0, 0, 0⟩) (c := 4096) ⟨M, F, HL.out, fun _ _ => rfl, fun q => HM.out.rfb (Nat.le_refl _) (fun _ => Nat.zero_le _) q, HC.out, hF, by have := HLV.out; omega⟩)
        obtain ⟨r, hr12, hrm⟩ := room6_of room
        clear hvn' hlk hcmp
        go_wp2_with fail
        refine (alive b 4096 M F _ HL.out.ar).mono ?_
        rintro e w' ⟨rfl, rfl⟩
        rw [← HLV.out]
        go_wp2_with fail
        clear a0 a1 a2 f0 f1 f2 HL HC
        go_loopg [] 4096 (fun c' wq => Fl w wq b z M ⟨0, 0, 0⟩ c')
        case atStart => exact HFL.out
        case round =>
          obtain ⟨M1, F1, hL1, hsame, hrf, hc1, hF1, hcnt⟩ := hrel
          have hrc := aroom b 4096 M1 F1 wr hL1.ar
          obtain ⟨lv1, hlv1⟩ : ∃ x, x = live (4096 + 1) M1 := ⟨_, rfl⟩
          rw [← hlv1] at hrc hcnt
          have HLV1 := Lib.hid hlv1
          clear hlv1
          have HR := Lib.hid hrc
          have HL1 := Lib.hid hL1
          have HC1 := Lib.hid hc1
          have HS1 := Lib.hid (And.intro hsame hrf)
          clear hrc hL1 hc1 hsame hrf
          go_wp2_with fail
          refine HR.out.mono ?_
          rintro e w4 ⟨rfl, kd, rfl⟩
          have hb4 := below_drewN wr kd
          have HL4 := Lib.hid (HL1.out.below hb4)
          have HC4 := Lib.hid (HC1.out.below hb4)
          clear hb4 HR HL1 HC1
          generalize wr.drewN kd = w4 at HL4 HC4 ⊢
          by_cases hgo : r < gk
          · have hgo' : (r : Int) < (4096 : Int) - (lv1 : Int) := by omega
            go_wp2_with fail
            refine (amake ⟨0, 0, 0, [], []⟩ (.slice none 0 0) (.slice none 0 0) b 4096 M1 F1 w4 HL4.out.ar (Rd.nil _) (Rd.nil _) (Nat.zero_le _) (Nat.zero_le _) (fun _ h => by cases h) (fun _ h => by cases h) rfl (by rw [← HLV1.out]; omega)).mono ?_
            rintro e w5 ⟨ii, rfl, i1, i2, i3, ha, hk5⟩
            have HF5 := Lib.hid (Fl.made (v := ⟨0, 0, 0⟩) (c := gk - 1) HL4.out HS1.out.1 HS1.out.2 HC4.out hF1 (by rw [← HLV1.out]; omega) i2 i3 ha hk5)
            clear ha hk5
            go_wp2_with fail
            go_roundg (gk - 1)
            case measure => omega
            case rel => exact HF5.out
          · have hgo' : ¬ (r : Int) < (4096 : Int) - (lv1 : Int) := by omega
            go_wp2_with fail
            refine (alive b 4096 M1 F1 _ HL4.out.ar).mono ?_
            rintro e w' ⟨rfl, rfl⟩
            rw [← HLV1.out]
            go_wp2_with fail
            have hrc := aroom b 4096 M1 F1 w4 HL4.out.ar
            rw [← HLV1.out] at hrc
            refine hrc.mono ?_
            rintro e w5 ⟨rfl, kd5, rfl⟩
            clear hrc
            have hb5 := below_drewN w4 kd5
            have HL5 := Lib.hid (HL4.out.below hb5)
            have HC5 := Lib.hid (HC4.out.below hb5)
            clear hb5 HL4 HC4
            generalize w4.drewN kd5 = w5 at HL5 HC5 ⊢
            obtain ⟨a0, a1, a2, f0, f1, f2⟩ := HC5.out.all
            go_wp2_with fail
            refine (vSet_range ⟨0, 0, 0⟩ 0 (0, 0, ⟨#[]⟩) w5 (Nat.le_refl _)).mono ?_
            rintro e w6 ⟨rfl, hb6⟩
            have HL6 := Lib.hid (HL5.out.below hb6)
            clear hb6 HL5 HC5 a0 a1 a2 f0 f1 f2
            have HL7 := Lib.hid (HL6.out.alloc (.cells #[.int .i64 0, .int .i64 0, .int .i64 0] 30))
            go_wp2_with fail
            refine (alive b 4096 M1 F1 _ HL7.out.ar).mono ?_
            rintro e w' ⟨rfl, rfl⟩
            rw [← HLV1.out]
            go_wp2_with fail
            go_ret
            exact ⟨rfl, HL7.out.bel⟩
      · have hj0' : ¬ (j : Int) = 0 := by omega
        have HFL := Lib.hid (Fl.mk (w := w) (wr := wr) (b := b) (z := z) (M0 := M) (v := v) (c := 4096 - lv) ⟨M, F, HL.out, fun _ _ => rfl, fun q => HM.out.rfb (Nat.le_refl _) (fun _ => Nat.zero_le _) q, HC.out, hF, by have := HLV.out; omega⟩)
        obtain ⟨r, hr12, hrm⟩ := room6_of room
        go_wp2_with fail
        have HZ0 := Lib.hid HL.out.ar.zero
        clear a0 a1 a2 f0 f1 f2 HL HC hvn' hvn hcmp hlk
        go_loopg [] (4096 - lv) (fun c' wq => Fl w wq b z M v c')
        case atStart => exact HFL.out
        case round =>
          obtain ⟨M1, F1, hL1, hsame, hrf, hc1, hF1, hcnt⟩ := hrel
          have hrc := aroom b 4096 M1 F1 wr hL1.ar
          obtain ⟨lv1, hlv1⟩ : ∃ x, x = live (4096 + 1) M1 := ⟨_, rfl⟩
          rw [← hlv1] at hrc hcnt
          have HLV1 := Lib.hid hlv1
          clear hlv1
          have HR := Lib.hid hrc
          have HL1 := Lib.hid hL1
          have HC1 := Lib.hid hc1
          have HS1 := Lib.hid (And.intro hsame hrf)
          clear hrc hL1 hc1 hsame hrf
          go_wp2_with fail
          refine HR.out.mono ?_
          rintro e w4 ⟨rfl, kd, rfl⟩
          have hb4 := below_drewN wr kd
          have HL4 := Lib.hid (HL1.out.below hb4)
          have HC4 := Lib.hid (HC1.out.below hb4)
          clear hb4 HR HL1 HC1
          generalize wr.drewN kd = w4 at HL4 HC4 ⊢
          by_cases hgo : r < gk
          · have hgo' : (r : Int) < (4096 : Int) - (lv1 : Int) := by omega
            go_wp2_with fail
            refine (amake ⟨0, 0, 0, [], []⟩ (.slice none 0 0) (.slice none 0 0) b 4096 M1 F1 w4 HL4.out.ar (Rd.nil _) (Rd.nil _) (Nat.zero_le _) (Nat.zero_le _) (fun _ h => by cases h) (fun _ h => by cases h) rfl (by rw [← HLV1.out]; omega)).mono ?_
            rintro e w5 ⟨ii, rfl, i1, i2, i3, ha, hk5⟩
            have HF5 := Lib.hid (Fl.made (c := gk - 1) HL4.out HS1.out.1 HS1.out.2 HC4.out hF1 (by rw [← HLV1.out]; omega) i2 i3 ha hk5)
            clear ha hk5
            go_wp2_with fail
            go_roundg (gk - 1)
            case measure => omega
            case rel => exact HF5.out
          · have hgo' : ¬ (r : Int) < (4096 : Int) - (lv1 : Int) := by omega
            go_wp2_with fail
            refine (alive b 4096 M1 F1 _ HL4.out.ar).mono ?_
            rintro e w' ⟨rfl, rfl⟩
            rw [← HLV1.out]
            go_wp2_with fail
            have hrc := aroom b 4096 M1 F1 w4 HL4.out.ar
            rw [← HLV1.out] at hrc
            refine hrc.mono ?_
            rintro e w5 ⟨rfl, kd5, rfl⟩
            clear hrc
            have hb5 := below_drewN w4 kd5
            have HL5 := Lib.hid (HL4.out.below hb5)
            have HC5 := Lib.hid (HC4.out.below hb5)
            clear hb5 HL4 HC4
            generalize w4.drewN kd5 = w5 at HL5 HC5 ⊢
            obtain ⟨a0, a1, a2, f0, f1, f2⟩ := HC5.out.all
            go_wp2_with fail
            have e2 : ((j : Int) / 2) = ((j / 2 : Nat) : Int) := by omega
            rw [e2]
            clear e2
            have hnl : numL j ≠ [] := fun e => by have := numL_length j; rw [e] at this; simp at this; omega
            have HH := Lib.hid ((HM.out.has hnl HZ0.out).keep HS1.out.1)
            have HI := Lib.hid (show j / 2 < (numL j).length from by rw [numL_length]; omega)
            refine (set_res v (numL j) ks 1 (j / 2) (0, 0, ⟨#[]⟩) w5 HL5.out.ar HH.out HI.out (fun q => Nat.le_trans (HS1.out.2 q) (by decide))).mono ?_
            clear a0 a1 a2 f0 f1 f2
            rintro e w6 (⟨y, M', rfl, hres, hs⟩ | ⟨rfl, hno, hb6⟩)
            · have HRES := Lib.hid hres
              have HL6 := Lib.hid (HL5.out.stp6 hs)
              have HC6 := Lib.hid (HC5.out.kp hs.kp hF1)
              have HF6 := Lib.hid (show ¬ Fn F1 w5 w6 z from fun hf => hf.elim hF1 (fun hf => by have := HC5.out.lt; omega))
              clear hres hs HL5 HC5
              generalize Fn F1 w5 w6 = F6 at HL6 HF6
              have hbY : Below w6.heap.size w6 (w6.alloc (.cells #[.int .i64 (y.n : Int), .int .i64 (y.root : Int), .int .i64 (y.tail : Int)] 30)) := (Below.refl _ w6).alloc (Nat.le_refl _) _
              have HL7 := Lib.hid (HL6.out.below hbY)
              have HC7 := Lib.hid (HC6.out.below hbY)
              have HY7 := Lib.hid (C3.new w6 30 (.int .i64 (y.n : Int)) (.int .i64 (y.root : Int)) (.int .i64 (y.tail : Int)))
              have NY := Lib.hid (show ¬ F6 w6.heap.size from fun hf => absurd (HL6.out.ar.lt hf) (Nat.lt_irrefl _))
              have c0 := HY7.out.c0
              have c1 := HY7.out.c1
              have c2 := HY7.out.c2
              go_wp2_with fail
              have e2 : ((j : Int) / 2) = ((j / 2 : Nat) : Int) := by omega
              rw [e2]
              refine (vGet y ((numL j).set (j / 2) (0, 0, ⟨#[]⟩)) (j / 2) (0, 0, ⟨#[]⟩) _ HL7.out.ar HRES.out.new (List.getElem?_set_self HI.out)).mono ?_
              rintro e w8 ⟨rfl, hb8⟩
              clear e2 c0 c1 c2
              have HL8 := Lib.hid (HL7.out.below hb8)
              have HC8 := Lib.hid (HC7.out.below hb8)
              have HY8 := Lib.hid (HY7.out.below hb8)
              obtain ⟨zy, hzy⟩ : ∃ zy, zy = w6.heap.size := ⟨_, rfl⟩
              rw [← hzy] at HY8 NY ⊢
              clear hb8 hzy hbY HL7 HC7 HY7 HL6 HC6
              have hbZ : Below w8.heap.size w8 (w8.alloc (.cells #[.int .u8 0, .int .i64 0, .string ⟨#[]⟩] 38)) := (Below.refl _ w8).alloc (Nat.le_refl _) _
              have HL9 := Lib.hid (HL8.out.below hbZ)
              have HC9 := Lib.hid (HC8.out.below hbZ)
              have HY9 := Lib.hid (HY8.out.below hbZ)
              have HZ9 := Lib.hid (C3.new w8 38 (.int .u8 0) (.int .i64 0) (.string ⟨#[]⟩))
              have NZ := Lib.hid (show ¬ F6 w8.heap.size from fun hf => absurd (HL8.out.ar.lt hf) (Nat.lt_irrefl _))
              obtain ⟨a0, a1, a2, _⟩ := HC9.out.all
              go_wp2_with fail
              obtain ⟨hf, hhf⟩ : ∃ hf : Nat, hf = j / 2 := ⟨_, rfl⟩
              have HHF := Lib.hid hhf
              have e2 : ((j : Int) / 2) = (hf : Int) := by omega
              have hat : (numL j)[hf]? = some (2, (hf : Int), ⟨#[]⟩) := numL_at (by have := HI.out; rw [numL_length] at this; omega)
              rw [e2]
              clear hhf e2
              refine (vGet v (numL j) hf (2, (hf : Int), ⟨#[]⟩) _ HL9.out.ar (HH.out.vec.kept HRES.out.kept) hat).mono ?_
              clear hat
              rintro e w10 ⟨rfl, hb10⟩
              have HL10 := Lib.hid (HL9.out.below hb10)
              have HY10 := Lib.hid (HY9.out.below hb10)
              have HZ10 := Lib.hid (HZ9.out.below hb10)
              obtain ⟨zz, hzz⟩ : ∃ zz, zz = w8.heap.size := ⟨_, rfl⟩
              rw [← hzz] at HZ10 NZ ⊢
              clear hb10 hzz hbZ HL8 HC8 HY8 HL9 HC9 HY9 HZ9 a0 a1 a2
              have hbW : Below w10.heap.size w10 (w10.alloc (.cells #[.int .u8 2, .int .i64 (hf : Int), .string ⟨#[]⟩] 38)) := (Below.refl _ w10).alloc (Nat.le_refl _) _
              have HL11 := Lib.hid (HL10.out.below hbW)
              have HY11 := Lib.hid (HY10.out.below hbW)
              have HZ11 := Lib.hid (HZ10.out.below hbW)
              have HX11 := Lib.hid (C3.new w10 38 (.int .u8 2) (.int .i64 (hf : Int)) (.string ⟨#[]⟩))
              have NX := Lib.hid (show ¬ F6 w10.heap.size from fun hf => absurd (HL10.out.ar.lt hf) (Nat.lt_irrefl _))
              obtain ⟨b0, b1, b2, _⟩ := HY11.out.all
              go_wp2_with fail
              refine (vdrop y _ HL11.out.ar (fun q => by have h1 := HRES.out.rf q; have h2 := HS1.out.2 q; omega)).mono ?_
              rintro e w12 ⟨rfl, Ma, Mb, hda, hdb, hs⟩
              obtain rfl : Mb = M1 := HRES.out.back _ _ hda hdb
              have HL12 := Lib.hid (HL11.out.stp6 hs)
              have q1 := HZ11.out.kp hs.kp NZ.out
              have q2 := HX11.out.kp hs.kp NX.out
              generalize Fn F6 _ w12 = F12 at HL12
              generalize w10.heap.size = zx at q2 ⊢
              clear hda hdb hs b0 b1 b2 HL11 HY11 HZ11 HX11 HL10 HY10 HZ10 hbW NX NZ NY
              have K0 := Gr.cell q1.c0 q1.lt
              have K1 := Gr.cell q1.c1 q1.lt
              have K2 := Gr.cell q1.c2 q1.lt
              have K3 := Gr.cell q2.c0 q2.lt
              have K4 := Gr.cell q2.c1 q2.lt
              have K5 := Gr.cell q2.c2 q2.lt
              have HAL := Lib.hid (show ∀ g : Gr w12, Calls Try.prog 23 #[ap b] g.at' fun e w' => e = .returned (.int .i64 (lv1 : Int)) ∧ Gw g.at' w' from fun g => by
                refine (alive b 4096 _ F12 _ (HL12.out.ar.below g.grown.below)).mono ?_
                rintro e w' ⟨rfl, rfl⟩
                rw [← HLV1.out]
                exact ⟨rfl, Gw.refl _⟩)
              have e2 : ((j : Int) / 2) = (hf : Int) := by have := HHF.out; omega
              clear q1 q2
              go_wp2_with fail
              refine region_grown (by kernel_rfl) (by kernel_rfl) ?_
              repeat (go_big_quiet_step (first | (go_at_call 24; exact Gr.calls _ (gnumber6 _ _)) | (go_at_call 23; exact Gr.calls _ (HAL.out _))))
              refine wpQuiet_nil ?_
              rintro _ ⟨g', rfl⟩
              go_wp2_with fail
              go_ret
              exact ⟨rfl, HL12.out.bel.trans (g'.grown.below.mono HL12.out.bel.size)⟩
            · have hle : lv1 ≤ 4096 := by omega
              have hno' : (4096 : Int) - (lv1 : Int) < 8 := by have := HLV1.out; omega
              have HL6 := Lib.hid (HL5.out.below hb6)
              clear hno hb6 HL5 HC5
              go_wp2_with fail
              have hbX : Below w6.heap.size w6 (w6.alloc (.cells #[.int .i64 0, .int .i64 0, .int .i64 0] 30)) := (Below.refl _ w6).alloc (Nat.le_refl _) _
              have HL7 := Lib.hid (HL6.out.below hbX)
              have q := C3.new w6 30 (.int .i64 0) (.int .i64 0) (.int .i64 0)
              obtain ⟨c0, c1, c2, _⟩ := q.all
              refine (alive b 4096 M1 F1 _ HL7.out.ar).mono ?_
              rintro e w' ⟨rfl, rfl⟩
              rw [← HLV1.out]
              go_wp2_with fail
              go_ret
              exact ⟨rfl, HL7.out.bel⟩

end Go.Proofs.Ytjdpgehmkcdmfaa

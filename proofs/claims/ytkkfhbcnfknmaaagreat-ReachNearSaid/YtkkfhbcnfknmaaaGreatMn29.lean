/- Several texts in one. -/
import Derived.Test.YtkkfhbcnfknmaaaGreatMn27
import Derived.Test.YtkkfhbcnfknmaaaGreatMn28
namespace Go.Proofs.YtkkfhbcnfknmaaaGreat
set_option maxRecDepth 100000
set_option linter.unusedSimpArgs false
set_option linter.unusedVariables false
open Go.RowKit Go.Shelf
section
set_option maxHeartbeats 16000000 in
theorem lnear12 (seed : Nat) (A : Option Addr) (l : List Ky) (c : Nat) (k : Ky) (w : World) (hL : Lst w A l) (hok : ∀ k ∈ l, 0 ≤ k.1 ∧ k.1 ≤ 255) (hn : l.length ≤ 200) (hks : k.2.2.size ≤ 9223372036854775807) :
    Calls Tryz.prog 8 #[.int .u64 seed, .slice A l.length c, xagg k] w fun e w' => e = .returned (.bool true) ∧ Below w.heap.size w w' := by
  have n1 : ¬ (200 : Int) < (l.length : Int) := by omega
  have HH := Lib.hid (And.intro hL (And.intro hok (And.intro hn hks)))
  obtain ⟨W0, hW0⟩ : ∃ W0, W0 = w.alloc (.cells #[.int .u8 k.1, .int .i64 k.2.1, .string k.2.2] 36) := ⟨_, rfl⟩
  have hb0 : Below w.heap.size w W0 := by rw [hW0]; exact (Below.refl _ w).alloc (Nat.le_refl _) _
  have q3 : C3 W0 w.heap.size 36 (.int .u8 k.1) (.int .i64 k.2.1) (.string k.2.2) := by rw [hW0]; exact C3.new w _ _ _ _
  have H0 := Lib.hid (And.intro hb0 q3)
  clear hL hok hn hks hb0 q3
  go_enter Tryz.func8, Tryz.ntmps8
  go_upto_region 1 with fail
  rw [← hW0]
  obtain ⟨zk, hzk⟩ : ∃ z, z = w.heap.size := ⟨_, rfl⟩
  rw [← hzk] at H0 ⊢
  have HZK := Lib.hid hzk
  clear hW0 hzk
  go_wp2_with fail
  refine (llives12 W0).mono ?_
  rintro e w1 ⟨rfl, hb1⟩
  have H1 := Lib.hid (show Below w.heap.size w w1 ∧ C3 w1 zk 36 (.int .u8 k.1) (.int .i64 k.2.1) (.string k.2.2) from ⟨by have h := H0.out.1; rw [HZK.out] at h; exact h.trans (hb1.mono h.size), H0.out.2.below hb1⟩)
  clear hb1 H0
  go_wp2_with fail
  refine (lmade12 seed A l c w1 (HH.out.1.below H1.out.1) HH.out.2.1 HH.out.2.2.1).mono ?_
  rintro e w2 ⟨hhas, hb2⟩
  rcases hhas with ⟨b, bh, N, rt, Av, n, cv, rfl, _⟩ | ⟨b, bh, root, M, F, Av, cv, rfl, ha, hT, hrow, hkeys, hlen⟩
  · have HB := Lib.hid (H1.out.1.trans (hb2.mono H1.out.1.size))
    clear hb2
    go_wp2_with fail
    go_ret
    exact ⟨rfl, (HB.out.alloc HB.out.size _).alloc (by have := HB.out.size; simp; omega) _⟩
  · generalize addN 0 l [] = L at ha hT hrow hkeys hlen ⊢
    have hlen2 : L.length ≤ 200 := by have := HH.out.2.2.1; omega
    go_upto_region 4 with fail
    obtain ⟨w3, hw3⟩ : ∃ w3, w3 = (w2.alloc (.cells #[ap b, .pointer (some ⟨bh, 0, none⟩)] 26)).alloc (.cells #[.int .i64 (L.length : Nat), .int .i64 (root : Nat)] 72) := ⟨_, rfl⟩
    have hb3 : Below w2.heap.size w2 w3 := by rw [hw3]; exact ((Below.refl _ w2).alloc (Nat.le_refl _) _).alloc (by simp) _
    have q1 : C2 w3 w2.heap.size 26 (ap b) (.pointer (some ⟨bh, 0, none⟩)) := by rw [hw3]; exact (C2.new w2 _ _ _).alloc _
    have q2 : C2 w3 (w2.heap.size + 1) 72 (.int .i64 (L.length : Nat)) (.int .i64 (root : Nat)) := by
      have h := C2.new (w2.alloc (.cells #[ap b, .pointer (some ⟨bh, 0, none⟩)] 26)) 72 (.int .i64 (L.length : Nat)) (.int .i64 (root : Nat))
      rw [World.size_alloc] at h
      rw [hw3]
      exact h
    have HX := Lib.hid (And.intro q1 (And.intro q2 (And.intro (ha.below hb3) (And.intro hT (And.intro ((Kp.of_below hb3 (fun _ => False)).own hrow (fun _ _ => id)) (And.intro hkeys (And.intro hlen2 (And.intro ((H1.out.1.trans (hb2.mono H1.out.1.size)).trans (hb3.mono (by have := H1.out.1.size; have := hb2.size; omega))) ((H1.out.2.below hb2).below hb3)))))))))
    have hln : (L.length : Int) ≤ 200 := by omega
    rw [← hw3]
    clear hb2 hb3 q1 q2 ha hT hrow hkeys hlen hlen2 hw3 H1
    generalize w2.heap.size = z7 at HX ⊢
    generalize z7 + 1 = z8 at HX ⊢
    obtain ⟨x0, x1, x2, _⟩ := HX.out.2.2.2.2.2.2.2.2.all
    go_wp2_with fail
    refine (lof12 k w3).mono ?_
    rintro e w4 ⟨rfl, hb4⟩
    have H4 := Lib.hid hb4
    clear hb4
    go_wp2_with fail
    refine (rbelow11 _ (.slice Av L.length cv) k L w4 (by have := HX.out.2.2.2.2.2.2.1; omega) HH.out.2.2.2 (fun q hq => by have := (HX.out.2.2.2.2.2.1 q hq).2.2; omega) ((Kp.of_below H4.out (fun _ => False)).own HX.out.2.2.2.2.1 (fun _ _ => id))).mono ?_
    rintro e w5 ⟨rfl, hb5⟩
    rw [cnB_ctB HX.out.2.2.2.1.srt]
    have H5 := Lib.hid (H4.out.trans (hb5.mono H4.out.size))
    obtain ⟨a0, a1, _⟩ := (HX.out.1.below H5.out).all
    obtain ⟨a2, a3, _⟩ := (HX.out.2.1.below H5.out).all
    obtain ⟨a4, a5, a6, _⟩ := (HX.out.2.2.2.2.2.2.2.2.below H5.out).all
    have hBle := ctB_le k L
    clear hb5 H4 x0 x1 x2
    go_wp2_with fail
    refine (rBelow (b := b) (bh := bh) (most := 4096) (M := M) (F := F) (l := L) L.length root k w5 (HX.out.2.2.1.below H5.out) HX.out.2.2.2.1 (by have := HX.out.2.2.2.2.2.2.1; omega)).mono ?_
    rintro e w6 ⟨rfl, hb6⟩
    have H6 := Lib.hid (H5.out.trans (hb6.mono H5.out.size))
    clear hb6 H5 a0 a1 a2 a3 a4 a5 a6
    obtain ⟨a0, a1, _⟩ := (HX.out.1.below H6.out).all
    obtain ⟨a2, a3, _⟩ := (HX.out.2.1.below H6.out).all
    obtain ⟨a4, a5, a6, _⟩ := (HX.out.2.2.2.2.2.2.2.2.below H6.out).all
    go_wp2_with fail
    refine (rFloor (b := b) (bh := bh) (most := 4096) (M := M) (F := F) (l := L) L.length root k w6 (HX.out.2.2.1.below H6.out) HX.out.2.2.2.1 (by have := HX.out.2.2.2.2.2.2.1; omega)).mono ?_
    rintro e w7 ⟨⟨r1, ok1, rfl, hr1⟩, hb7⟩
    have HF := Lib.hid hr1
    clear hr1 a0 a1 a2 a3 a4 a5 a6
    have q12 := C6.new w7 48 (.int .u8 r1.1.1) (.int .i64 r1.1.2.1) (.string r1.1.2.2) (.int .u8 r1.2.1) (.int .i64 r1.2.2.1) (.string r1.2.2.2)
    obtain ⟨w8, hw8⟩ : ∃ w8, w8 = w7.alloc (.cells #[.int .u8 r1.1.1, .int .i64 r1.1.2.1, .string r1.1.2.2, .int .u8 r1.2.1, .int .i64 r1.2.2.1, .string r1.2.2.2] 48) := ⟨_, rfl⟩
    have hb8 : Below w3.heap.size w3 w8 := by rw [hw8]; have h := H6.out.trans (hb7.mono H6.out.size); exact h.alloc h.size _
    rw [← hw8] at q12
    have H8 := Lib.hid (And.intro hb8 q12)
    clear q12 hb7 H6 hb8
    go_upto_region 10 with fail
    rw [← hw8]
    clear hw8
    obtain ⟨a0, a1, _⟩ := (HX.out.1.below H8.out.1).all
    obtain ⟨a2, a3, _⟩ := (HX.out.2.1.below H8.out.1).all
    obtain ⟨a4, a5, a6, _⟩ := (HX.out.2.2.2.2.2.2.2.2.below H8.out.1).all
    generalize w7.heap.size = z12 at H8 ⊢
    go_wp2_with fail
    refine (rCeil (b := b) (bh := bh) (most := 4096) (M := M) (F := F) (l := L) L.length root k w8 (HX.out.2.2.1.below H8.out.1) HX.out.2.2.2.1 (by have := HX.out.2.2.2.2.2.2.1; omega)).mono ?_
    rintro e w9 ⟨⟨r2, ok2, rfl, hr2⟩, hb9⟩
    have HC := Lib.hid hr2
    clear hr2 a0 a1 a2 a3 a4 a5 a6
    have q14 := C6.new w9 48 (.int .u8 r2.1.1) (.int .i64 r2.1.2.1) (.string r2.1.2.2) (.int .u8 r2.2.1) (.int .i64 r2.2.2.1) (.string r2.2.2.2)
    obtain ⟨w10, hw10⟩ : ∃ w10, w10 = w9.alloc (.cells #[.int .u8 r2.1.1, .int .i64 r2.1.2.1, .string r2.1.2.2, .int .u8 r2.2.1, .int .i64 r2.2.2.1, .string r2.2.2.2] 48) := ⟨_, rfl⟩
    have hb10 : Below w8.heap.size w8 w10 := by rw [hw10]; exact hb9.alloc hb9.size _
    rw [← hw10] at q14
    have H10 := Lib.hid (And.intro (H8.out.1.trans (hb10.mono H8.out.1.size)) (And.intro (H8.out.2.below hb10) q14))
    clear q14 hb9 hb10 H8
    go_upto_region 11 with fail
    rw [← hw10]
    clear hw10
    obtain ⟨a0, a1, _⟩ := (HX.out.1.below H10.out.1).all
    obtain ⟨a2, a3, _⟩ := (HX.out.2.1.below H10.out.1).all
    generalize w9.heap.size = z14 at H10 ⊢
    go_wp2_with fail
    refine (rEnds (b := b) (bh := bh) (most := 4096) (M := M) (F := F) (l := L) L.length root w10 (HX.out.2.2.1.below H10.out.1) HX.out.2.2.2.1 (by have := HX.out.2.2.2.2.2.2.1; omega)).mono ?_
    rintro e w11 ⟨⟨r3, r4, ok3, rfl, hr3⟩, hb11⟩
    have HE := Lib.hid hr3
    clear hr3 a0 a1 a2 a3
    have q16 := (C6.new w11 48 (.int .u8 r3.1.1) (.int .i64 r3.1.2.1) (.string r3.1.2.2) (.int .u8 r3.2.1) (.int .i64 r3.2.2.1) (.string r3.2.2.2)).alloc (.cells #[.int .u8 r4.1.1, .int .i64 r4.1.2.1, .string r4.1.2.2, .int .u8 r4.2.1, .int .i64 r4.2.2.1, .string r4.2.2.2] 48)
    have q17 := C6.new (w11.alloc (.cells #[.int .u8 r3.1.1, .int .i64 r3.1.2.1, .string r3.1.2.2, .int .u8 r3.2.1, .int .i64 r3.2.2.1, .string r3.2.2.2] 48)) 48 (.int .u8 r4.1.1) (.int .i64 r4.1.2.1) (.string r4.1.2.2) (.int .u8 r4.2.1) (.int .i64 r4.2.2.1) (.string r4.2.2.2)
    rw [World.size_alloc] at q17
    obtain ⟨w12, hw12⟩ : ∃ w12, w12 = (w11.alloc (.cells #[.int .u8 r3.1.1, .int .i64 r3.1.2.1, .string r3.1.2.2, .int .u8 r3.2.1, .int .i64 r3.2.2.1, .string r3.2.2.2] 48)).alloc (.cells #[.int .u8 r4.1.1, .int .i64 r4.1.2.1, .string r4.1.2.2, .int .u8 r4.2.1, .int .i64 r4.2.2.1, .string r4.2.2.2] 48) := ⟨_, rfl⟩
    have hb12 : Below w10.heap.size w10 w12 := by rw [hw12]; have h := hb11.alloc hb11.size (.cells #[.int .u8 r3.1.1, .int .i64 r3.1.2.1, .string r3.1.2.2, .int .u8 r3.2.1, .int .i64 r3.2.2.1, .string r3.2.2.2] 48); exact h.alloc h.size _
    rw [← hw12] at q16 q17
    have H12 := Lib.hid (And.intro (H10.out.1.trans (hb12.mono H10.out.1.size)) (And.intro (H10.out.2.1.below hb12) (And.intro (H10.out.2.2.below hb12) (And.intro q16 q17))))
    clear q16 q17 hb11 hb12 H10
    go_upto_region 12 with fail
    rw [← hw12]
    clear hw12
    generalize w11.heap.size = z16 at H12 ⊢
    generalize z16 + 1 = z17 at H12 ⊢
    have HROW := Lib.hid ((Kp.of_below H12.out.1 (fun _ => False)).own HX.out.2.2.2.2.1 (fun _ _ => id))
    have HK12 := Lib.hid (HX.out.2.2.2.2.2.2.2.2.below H12.out.1)
    have HBW := Lib.hid (HX.out.2.2.2.2.2.2.2.1.trans (H12.out.1.mono HX.out.2.2.2.2.2.2.2.1.size))
    have HSRT := Lib.hid HX.out.2.2.2.1.srt
    have HQ := Lib.hid H12.out.2
    have HOF := Lib.hid (fun W => lof12 k W)
    clear HX H12
    obtain ⟨B, hB⟩ : ∃ B, B = ctB k L := ⟨_, rfl⟩
    have HBE := Lib.hid hB
    rw [← hB] at hBle ⊢
    have HC' := Lib.hid (show ok2 = true ∧ L[B]? = some r2 ∨ ok2 = false ∧ B = L.length ∧ r2 = pzero from by rw [hB]; exact HC.out)
    clear hB HC
    have hB0 : (0 : Int) ≤ (B : Int) := by omega
    go_cut [19] from 70 to 83 (fun s19 wc => ∃ ex : Bool, s19 = .bool ex ∧ Below w12.heap.size w12 wc ∧ Hid (ctF k L = B + (if ex then 1 else 0)))
    case first =>
      by_cases hBn : B < L.length
      · have hlt : (B : Int) < (L.length : Int) := by omega
        obtain ⟨q, hp⟩ : ∃ q, L[B]? = some q := ⟨_, List.getElem?_eq_getElem hBn⟩
        obtain ⟨g, rfl, c0, c1, c2, c3, c4, c5⟩ := row6 HROW.out hp
        obtain ⟨b0, b1, b2, _⟩ := HK12.out.all
        have hzz := HK12.out.lt
        have hgg := World.block_lt_of_cell? w12 _ c0
        have y0 := Gb.cell c0 hgg
        have y1 := Gb.cell c1 hgg
        have y2 := Gb.cell c2 hgg
        have x0 := Gb.cell b0 hzz
        have x1 := Gb.cell b1 hzz
        have x2 := Gb.cell b2 hzz
        have HP := Lib.hid hp
        obtain ⟨⟨qk, qn, qs⟩, qv⟩ := q
        obtain ⟨kk, kn, ks⟩ := k
        simp only at y0 y1 y2 x0 x1 x2 ⊢
        clear hp hBn c0 c1 c2 c3 c4 c5 b0 b1 b2 hzz hgg
        have hno : ((qk, qn, qs) : Ky) ≠ (kk, kn, ks) → Hid (ctF (kk, kn, ks) L = B + (if false then 1 else 0)) := fun hne => Lib.hid (by
          rw [HBE.out]
          refine (ctF_no (fun p h => ?_)).trans (by simp)
          rw [← HBE.out, HP.out] at h
          cases h
          exact hne)
        by_cases e0 : qk = kk
        · by_cases e1 : qn = kn
          · by_cases e2 : qs = ks
            · subst e0 e1 e2
              have hyes : Hid (ctF (qk, qn, qs) L = B + (if true then 1 else 0)) := Lib.hid (by
                rw [HBE.out]
                exact ctF_yes HSRT.out (by rw [← HBE.out]; exact HP.out) rfl)
              clear hno
              refine region_below (by kernel_rfl) (by kernel_rfl) ?_
              repeat (go_big_quiet_step ((go_at_call 51; exact Gb.calls _ (HOF.out _))))
              refine wpQuiet_nil ?_
              rintro _ ⟨g9, rfl⟩
              go_wp2_with fail
              go_meet
              case rel => exact ⟨true, (by simp), g9.below, hyes⟩
            · have e3 : ¬ qs.toList = ks.toList := fun h => e2 (bytes_ext h)
              have hh := hno (fun e => e2 (congrArg (fun x : Ky => x.2.2) e))
              clear hno
              subst e0 e1
              refine region_below (by kernel_rfl) (by kernel_rfl) ?_
              repeat (go_big_quiet_step ((go_at_call 51; exact Gb.calls _ (HOF.out _))))
              refine wpQuiet_nil ?_
              rintro _ ⟨g9, rfl⟩
              go_wp2_with fail
              go_meet
              case rel => exact ⟨false, (by simp [e3]), g9.below, hh⟩
          · have hh := hno (fun e => e1 (congrArg (fun x : Ky => x.2.1) e))
            clear hno
            subst e0
            refine region_below (by kernel_rfl) (by kernel_rfl) ?_
            repeat (go_big_quiet_step ((go_at_call 51; exact Gb.calls _ (HOF.out _))))
            refine wpQuiet_nil ?_
            rintro _ ⟨g9, rfl⟩
            go_wp2_with fail
            go_meet
            case rel => exact ⟨false, (by simp [e1]), g9.below, hh⟩
        · have hh := hno (fun e => e0 (congrArg (fun x : Ky => x.1) e))
          clear hno
          refine region_below (by kernel_rfl) (by kernel_rfl) ?_
          repeat (go_big_quiet_step ((go_at_call 51; exact Gb.calls _ (HOF.out _))))
          refine wpQuiet_nil ?_
          rintro _ ⟨g9, rfl⟩
          go_wp2_with fail
          go_meet
          case rel => exact ⟨false, (by simp [e0]), g9.below, hh⟩
      · have hlt : ¬ (B : Int) < (L.length : Int) := by omega
        have hh : Hid (ctF k L = B + (if false then 1 else 0)) := Lib.hid (by
          rw [HBE.out]
          refine (ctF_no (fun p h => ?_)).trans (by simp)
          rw [← HBE.out] at h
          have := (List.getElem?_eq_some_iff.1 h).1
          omega)
        refine region_below (by kernel_rfl) (by kernel_rfl) ?_
        repeat (go_big_quiet_step (fail))
        refine wpQuiet_nil ?_
        rintro _ ⟨g9, rfl⟩
        go_wp2_with fail
        go_meet
        case rel => exact ⟨false, rfl, g9.below, hh⟩
    case rest =>
      obtain ⟨ex, rfl, hb13, HEX⟩ := hcut
      replace HROW := Lib.hid ((Kp.of_below hb13 (fun _ => False)).own HROW.out (fun _ _ => id))
      replace HQ := Lib.hid (show C6 wc z12 48 (.int .u8 r1.1.1) (.int .i64 r1.1.2.1) (.string r1.1.2.2) (.int .u8 r1.2.1) (.int .i64 r1.2.2.1) (.string r1.2.2.2) ∧ C6 wc z14 48 (.int .u8 r2.1.1) (.int .i64 r2.1.2.1) (.string r2.1.2.2) (.int .u8 r2.2.1) (.int .i64 r2.2.2.1) (.string r2.2.2.2) ∧ C6 wc z16 48 (.int .u8 r3.1.1) (.int .i64 r3.1.2.1) (.string r3.1.2.2) (.int .u8 r3.2.1) (.int .i64 r3.2.2.1) (.string r3.2.2.2) ∧ C6 wc z17 48 (.int .u8 r4.1.1) (.int .i64 r4.1.2.1) (.string r4.1.2.2) (.int .u8 r4.2.1) (.int .i64 r4.2.2.1) (.string r4.2.2.2) from ⟨HQ.out.1.below hb13, HQ.out.2.1.below hb13, HQ.out.2.2.1.below hb13, HQ.out.2.2.2.below hb13⟩)
      replace HBW := Lib.hid (HBW.out.trans (hb13.mono HBW.out.size))
      clear hb13 HK12 HOF
      obtain ⟨T, hT⟩ : ∃ T, T = ctF k L := ⟨_, rfl⟩
      rw [← hT] at HEX HF
      clear hT
      cases ex
      · have hTB := HEX.out
        simp only [Bool.false_eq_true, if_false, Nat.add_zero] at hTB
        rw [hTB] at HF
        clear HEX hTB
        rcases HF.out with ⟨h0, rfl, rfl⟩ | ⟨h0, rfl, h1⟩
        · subst h0
          have hw1 : wrap64 ((0 : Int) - 1) = -1 := by rw [IntWalk.wrap64_in _ (by omega)]; rfl
          have hw2 : wrap64 (-1) = -1 := by rw [IntWalk.wrap64_in _ (by omega)]
          have hw3 : wrap64 (((0 : Nat) : Int) - 1) = -1 := hw1
          clear HF hBle
          rw [show ((0 : Nat) : Int) = (0 : Int) from rfl]
          rcases HC'.out with ⟨rfl, h2⟩ | ⟨rfl, hBn, rfl⟩
          · have hlt : (0 : Int) < (L.length : Int) := by have := (List.getElem?_eq_some_iff.1 h2).1; omega
            have hltn : 0 < L.length := by omega
            obtain ⟨gA, eA, _⟩ := row6 HROW.out h2
            subst eA
            go_upto_region 16 with fail
            go_cut [141] from 88 to 140 (fun s141 wd => s141 = .bool false ∧ Below wc.heap.size wc wd)
            case first =>
              obtain ⟨q0, q1, q2, q3, q4, q5, _⟩ := HQ.out.1.all
              have hzlt := HQ.out.1.lt
              have a0 := Gb.cell q0 hzlt
              have a1 := Gb.cell q1 hzlt
              have a2 := Gb.cell q2 hzlt
              have a3 := Gb.cell q3 hzlt
              have a4 := Gb.cell q4 hzlt
              have a5 := Gb.cell q5 hzlt
              clear q0 q1 q2 q3 q4 q5 hzlt
              obtain ⟨q0, q1, q2, q3, q4, q5, _⟩ := HQ.out.2.1.all
              have hzlt := HQ.out.2.1.lt
              have b0 := Gb.cell q0 hzlt
              have b1 := Gb.cell q1 hzlt
              have b2 := Gb.cell q2 hzlt
              have b3 := Gb.cell q3 hzlt
              have b4 := Gb.cell q4 hzlt
              have b5 := Gb.cell q5 hzlt
              clear q0 q1 q2 q3 q4 q5 hzlt
              obtain ⟨gc, eAc, q0, q1, q2, q3, q4, q5⟩ := row6 HROW.out h2
              have hglt := World.block_lt_of_cell? wc _ q0
              have c0 := Gb.cell q0 hglt
              have c1 := Gb.cell q1 hglt
              have c2 := Gb.cell q2 hglt
              have c3 := Gb.cell q3 hglt
              have c4 := Gb.cell q4 hglt
              have c5 := Gb.cell q5 hglt
              clear q0 q1 q2 q3 q4 q5 hglt
              simp only [Option.some.injEq, Addr.mk.injEq, and_true] at eAc
              subst eAc
              refine region_below (by kernel_rfl) (by kernel_rfl) ?_
              repeat (go_big_quiet_step ((go_at_call 56; first | with_reducible_and_instances exact Gb.calls _ (lis12 r1 _) | with_reducible_and_instances exact Gb.calls _ (lis12 r2 _) | exact Gb.calls _ (lis12 r1 _) | exact Gb.calls _ (lis12 r2 _))))
              refine wpQuiet_nil ?_
              rintro _ ⟨g9, rfl⟩
              go_wp2_with fail
              go_meet
              case rel => exact ⟨(by simp), g9.below⟩
            case rest =>
              obtain ⟨rfl, hb18⟩ := hcut
              have HROW := Lib.hid ((Kp.of_below hb18 (fun _ => False)).own HROW.out (fun _ _ => id))
              have HQ := Lib.hid (And.intro (HQ.out.2.2.1.below hb18) (HQ.out.2.2.2.below hb18))
              have HBW := Lib.hid (HBW.out.trans (hb18.mono HBW.out.size))
              clear hb18
              obtain ⟨rfl, h3, h4⟩ : ok3 = true ∧ L[0]? = some r3 ∧ L[L.length - 1]? = some r4 := by
                rcases HE.out with ⟨h0, _⟩ | ⟨_, h1, h2, h3⟩
                · omega
                · exact ⟨h1, h2, h3⟩
              have hlt0 : (0 : Int) < (L.length : Int) := by omega
              have hw9 : wrap64 ((L.length : Int) - 1) = (L.length : Int) - 1 := by rw [IntWalk.wrap64_in _ (by omega)]
              have hn0 : (0 : Int) ≤ (L.length : Int) - 1 := by omega
              have hnl : (L.length : Int) - 1 < (L.length : Int) := by omega
              go_upto_region 18 with fail
              obtain ⟨q0, q1, q2, q3, q4, q5, _⟩ := HQ.out.1.all
              have hzlt := HQ.out.1.lt
              have a0 := Gb.cell q0 hzlt
              have a1 := Gb.cell q1 hzlt
              have a2 := Gb.cell q2 hzlt
              have a3 := Gb.cell q3 hzlt
              have a4 := Gb.cell q4 hzlt
              have a5 := Gb.cell q5 hzlt
              clear q0 q1 q2 q3 q4 q5 hzlt
              obtain ⟨q0, q1, q2, q3, q4, q5, _⟩ := HQ.out.2.all
              have hzlt := HQ.out.2.lt
              have b0 := Gb.cell q0 hzlt
              have b1 := Gb.cell q1 hzlt
              have b2 := Gb.cell q2 hzlt
              have b3 := Gb.cell q3 hzlt
              have b4 := Gb.cell q4 hzlt
              have b5 := Gb.cell q5 hzlt
              clear q0 q1 q2 q3 q4 q5 hzlt
              obtain ⟨gc, eAc, q0, q1, q2, q3, q4, q5⟩ := row6 HROW.out h3
              have hglt := World.block_lt_of_cell? wc _ q0
              have c0 := Gb.cell q0 hglt
              have c1 := Gb.cell q1 hglt
              have c2 := Gb.cell q2 hglt
              have c3 := Gb.cell q3 hglt
              have c4 := Gb.cell q4 hglt
              have c5 := Gb.cell q5 hglt
              clear q0 q1 q2 q3 q4 q5 hglt
              obtain ⟨gd, eAd, q0, q1, q2, q3, q4, q5⟩ := row6 HROW.out h4
              have hglt := World.block_lt_of_cell? wc _ q0
              have d0 := Gb.cell q0 hglt
              have d1 := Gb.cell q1 hglt
              have d2 := Gb.cell q2 hglt
              have d3 := Gb.cell q3 hglt
              have d4 := Gb.cell q4 hglt
              have d5 := Gb.cell q5 hglt
              clear q0 q1 q2 q3 q4 q5 hglt
              simp only [Option.some.injEq, Addr.mk.injEq, and_true] at eAc
              subst eAc
              simp only [Option.some.injEq, Addr.mk.injEq, and_true] at eAd
              subst eAd
              clear h3 h4 HROW HQ
              refine region_below (by kernel_rfl) (by kernel_rfl) ?_
              repeat (go_big_quiet_step ((go_at_call 56; first | with_reducible_and_instances exact Gb.calls _ (lis12 r3 _) | with_reducible_and_instances exact Gb.calls _ (lis12 r4 _) | exact Gb.calls _ (lis12 r3 _) | exact Gb.calls _ (lis12 r4 _))))
              refine wpQuiet_nil ?_
              rintro _ ⟨g9, rfl⟩
              have HFB := Lib.hid (HBW.out.trans (g9.below.mono HBW.out.size))
              generalize g9.at' = w19 at HFB ⊢
              go_wp2_with fail
              go_ret
              exact ⟨by simp, HFB.out⟩
          · obtain rfl : L = [] := List.eq_nil_of_length_eq_zero hBn.symm
            clear hBn HC' HSRT HBE
            simp only [List.length_nil]
            rw [show ((0 : Nat) : Int) = (0 : Int) from rfl]
            go_upto_region 16 with fail
            go_cut [141] from 88 to 140 (fun s141 wd => s141 = .bool false ∧ Below wc.heap.size wc wd)
            case first =>
              obtain ⟨q0, q1, q2, q3, q4, q5, _⟩ := HQ.out.1.all
              have hzlt := HQ.out.1.lt
              have a0 := Gb.cell q0 hzlt
              have a1 := Gb.cell q1 hzlt
              have a2 := Gb.cell q2 hzlt
              have a3 := Gb.cell q3 hzlt
              have a4 := Gb.cell q4 hzlt
              have a5 := Gb.cell q5 hzlt
              clear q0 q1 q2 q3 q4 q5 hzlt
              obtain ⟨q0, q1, q2, q3, q4, q5, _⟩ := HQ.out.2.1.all
              have hzlt := HQ.out.2.1.lt
              have b0 := Gb.cell q0 hzlt
              have b1 := Gb.cell q1 hzlt
              have b2 := Gb.cell q2 hzlt
              have b3 := Gb.cell q3 hzlt
              have b4 := Gb.cell q4 hzlt
              have b5 := Gb.cell q5 hzlt
              clear q0 q1 q2 q3 q4 q5 hzlt
              refine region_below (by kernel_rfl) (by kernel_rfl) ?_
              repeat (go_big_quiet_step ((fail)))
              refine wpQuiet_nil ?_
              rintro _ ⟨g9, rfl⟩
              go_wp2_with fail
              go_meet
              case rel => exact ⟨(by simp), g9.below⟩
            case rest =>
              obtain ⟨rfl, hb18⟩ := hcut
              have HROW := Lib.hid ((Kp.of_below hb18 (fun _ => False)).own HROW.out (fun _ _ => id))
              have HQ := Lib.hid (And.intro (HQ.out.2.2.1.below hb18) (HQ.out.2.2.2.below hb18))
              have HBW := Lib.hid (HBW.out.trans (hb18.mono HBW.out.size))
              clear hb18
              obtain ⟨rfl, rfl, rfl⟩ : ok3 = false ∧ r3 = pzero ∧ r4 = pzero := by
                rcases HE.out with ⟨_, h1, h2, h3⟩ | ⟨h0, _⟩
                · exact ⟨h1, h2, h3⟩
                · simp at h0
              go_upto_region 18 with fail
              obtain ⟨q0, q1, q2, q3, q4, q5, _⟩ := HQ.out.1.all
              have hzlt := HQ.out.1.lt
              have a0 := Gb.cell q0 hzlt
              have a1 := Gb.cell q1 hzlt
              have a2 := Gb.cell q2 hzlt
              have a3 := Gb.cell q3 hzlt
              have a4 := Gb.cell q4 hzlt
              have a5 := Gb.cell q5 hzlt
              clear q0 q1 q2 q3 q4 q5 hzlt
              obtain ⟨q0, q1, q2, q3, q4, q5, _⟩ := HQ.out.2.all
              have hzlt := HQ.out.2.lt
              have b0 := Gb.cell q0 hzlt
              have b1 := Gb.cell q1 hzlt
              have b2 := Gb.cell q2 hzlt
              have b3 := Gb.cell q3 hzlt
              have b4 := Gb.cell q4 hzlt
              have b5 := Gb.cell q5 hzlt
              clear q0 q1 q2 q3 q4 q5 hzlt
              clear HROW HQ
              refine region_below (by kernel_rfl) (by kernel_rfl) ?_
              repeat (go_big_quiet_step ((fail)))
              refine wpQuiet_nil ?_
              rintro _ ⟨g9, rfl⟩
              have HFB := Lib.hid (HBW.out.trans (g9.below.mono HBW.out.size))
              generalize g9.at' = w19 at HFB ⊢
              go_wp2_with fail
              go_ret
              exact ⟨by simp, HFB.out⟩
        · obtain ⟨i, hi⟩ : ∃ i, B = i + 1 := ⟨B - 1, by omega⟩
          subst hi
          rw [Nat.add_sub_cancel] at h1
          have hw1 : wrap64 (((i + 1 : Nat) : Int) - 1) = (i : Int) := by rw [IntWalk.wrap64_in _ (by omega)]; omega
          have hw2 : wrap64 ((i : Int) + 1 - 1) = (i : Int) := by rw [IntWalk.wrap64_in _ (by omega)]; omega
          have hi0 : (0 : Int) ≤ (i : Int) := by omega
          clear HF hB0 h0
          rcases HC'.out with ⟨rfl, h2⟩ | ⟨rfl, hBn, rfl⟩
          · have hlt : (i : Int) + 1 < (L.length : Int) := by have := (List.getElem?_eq_some_iff.1 h2).1; omega
            have hlt2 : (i : Int) < (L.length : Int) := by omega
            have hltn : 0 < L.length := by omega
            have hpos : (0 : Int) ≤ (i : Int) + 1 := by omega
            obtain ⟨gA, eA, _⟩ := row6 HROW.out h1
            subst eA
            go_upto_region 16 with fail
            go_cut [141] from 88 to 140 (fun s141 wd => s141 = .bool false ∧ Below wc.heap.size wc wd)
            case first =>
              obtain ⟨q0, q1, q2, q3, q4, q5, _⟩ := HQ.out.1.all
              have hzlt := HQ.out.1.lt
              have a0 := Gb.cell q0 hzlt
              have a1 := Gb.cell q1 hzlt
              have a2 := Gb.cell q2 hzlt
              have a3 := Gb.cell q3 hzlt
              have a4 := Gb.cell q4 hzlt
              have a5 := Gb.cell q5 hzlt
              clear q0 q1 q2 q3 q4 q5 hzlt
              obtain ⟨q0, q1, q2, q3, q4, q5, _⟩ := HQ.out.2.1.all
              have hzlt := HQ.out.2.1.lt
              have b0 := Gb.cell q0 hzlt
              have b1 := Gb.cell q1 hzlt
              have b2 := Gb.cell q2 hzlt
              have b3 := Gb.cell q3 hzlt
              have b4 := Gb.cell q4 hzlt
              have b5 := Gb.cell q5 hzlt
              clear q0 q1 q2 q3 q4 q5 hzlt
              obtain ⟨gc, eAc, q0, q1, q2, q3, q4, q5⟩ := row6 HROW.out h2
              have hglt := World.block_lt_of_cell? wc _ q0
              have c0 := Gb.cell q0 hglt
              have c1 := Gb.cell q1 hglt
              have c2 := Gb.cell q2 hglt
              have c3 := Gb.cell q3 hglt
              have c4 := Gb.cell q4 hglt
              have c5 := Gb.cell q5 hglt
              clear q0 q1 q2 q3 q4 q5 hglt
              obtain ⟨gd, eAd, q0, q1, q2, q3, q4, q5⟩ := row6 HROW.out h1
              have hglt := World.block_lt_of_cell? wc _ q0
              have d0 := Gb.cell q0 hglt
              have d1 := Gb.cell q1 hglt
              have d2 := Gb.cell q2 hglt
              have d3 := Gb.cell q3 hglt
              have d4 := Gb.cell q4 hglt
              have d5 := Gb.cell q5 hglt
              clear q0 q1 q2 q3 q4 q5 hglt
              simp only [Option.some.injEq, Addr.mk.injEq, and_true] at eAc eAd
              subst eAc eAd
              refine region_below (by kernel_rfl) (by kernel_rfl) ?_
              repeat (go_big_quiet_step ((go_at_call 56; first | with_reducible_and_instances exact Gb.calls _ (lis12 r1 _) | with_reducible_and_instances exact Gb.calls _ (lis12 r2 _) | exact Gb.calls _ (lis12 r1 _) | exact Gb.calls _ (lis12 r2 _))))
              refine wpQuiet_nil ?_
              rintro _ ⟨g9, rfl⟩
              go_wp2_with fail
              go_meet
              case rel => exact ⟨(by simp), g9.below⟩
            case rest =>
              obtain ⟨rfl, hb18⟩ := hcut
              have HROW := Lib.hid ((Kp.of_below hb18 (fun _ => False)).own HROW.out (fun _ _ => id))
              have HQ := Lib.hid (And.intro (HQ.out.2.2.1.below hb18) (HQ.out.2.2.2.below hb18))
              have HBW := Lib.hid (HBW.out.trans (hb18.mono HBW.out.size))
              clear hb18
              obtain ⟨rfl, h3, h4⟩ : ok3 = true ∧ L[0]? = some r3 ∧ L[L.length - 1]? = some r4 := by
                rcases HE.out with ⟨h0, _⟩ | ⟨_, h1, h2, h3⟩
                · omega
                · exact ⟨h1, h2, h3⟩
              have hlt0 : (0 : Int) < (L.length : Int) := by omega
              have hw9 : wrap64 ((L.length : Int) - 1) = (L.length : Int) - 1 := by rw [IntWalk.wrap64_in _ (by omega)]
              have hn0 : (0 : Int) ≤ (L.length : Int) - 1 := by omega
              have hnl : (L.length : Int) - 1 < (L.length : Int) := by omega
              go_upto_region 18 with fail
              obtain ⟨q0, q1, q2, q3, q4, q5, _⟩ := HQ.out.1.all
              have hzlt := HQ.out.1.lt
              have a0 := Gb.cell q0 hzlt
              have a1 := Gb.cell q1 hzlt
              have a2 := Gb.cell q2 hzlt
              have a3 := Gb.cell q3 hzlt
              have a4 := Gb.cell q4 hzlt
              have a5 := Gb.cell q5 hzlt
              clear q0 q1 q2 q3 q4 q5 hzlt
              obtain ⟨q0, q1, q2, q3, q4, q5, _⟩ := HQ.out.2.all
              have hzlt := HQ.out.2.lt
              have b0 := Gb.cell q0 hzlt
              have b1 := Gb.cell q1 hzlt
              have b2 := Gb.cell q2 hzlt
              have b3 := Gb.cell q3 hzlt
              have b4 := Gb.cell q4 hzlt
              have b5 := Gb.cell q5 hzlt
              clear q0 q1 q2 q3 q4 q5 hzlt
              obtain ⟨gc, eAc, q0, q1, q2, q3, q4, q5⟩ := row6 HROW.out h3
              have hglt := World.block_lt_of_cell? wc _ q0
              have c0 := Gb.cell q0 hglt
              have c1 := Gb.cell q1 hglt
              have c2 := Gb.cell q2 hglt
              have c3 := Gb.cell q3 hglt
              have c4 := Gb.cell q4 hglt
              have c5 := Gb.cell q5 hglt
              clear q0 q1 q2 q3 q4 q5 hglt
              obtain ⟨gd, eAd, q0, q1, q2, q3, q4, q5⟩ := row6 HROW.out h4
              have hglt := World.block_lt_of_cell? wc _ q0
              have d0 := Gb.cell q0 hglt
              have d1 := Gb.cell q1 hglt
              have d2 := Gb.cell q2 hglt
              have d3 := Gb.cell q3 hglt
              have d4 := Gb.cell q4 hglt
              have d5 := Gb.cell q5 hglt
              clear q0 q1 q2 q3 q4 q5 hglt
              simp only [Option.some.injEq, Addr.mk.injEq, and_true] at eAc
              subst eAc
              simp only [Option.some.injEq, Addr.mk.injEq, and_true] at eAd
              subst eAd
              clear h3 h4 HROW HQ
              refine region_below (by kernel_rfl) (by kernel_rfl) ?_
              repeat (go_big_quiet_step ((go_at_call 56; first | with_reducible_and_instances exact Gb.calls _ (lis12 r3 _) | with_reducible_and_instances exact Gb.calls _ (lis12 r4 _) | exact Gb.calls _ (lis12 r3 _) | exact Gb.calls _ (lis12 r4 _))))
              refine wpQuiet_nil ?_
              rintro _ ⟨g9, rfl⟩
              have HFB := Lib.hid (HBW.out.trans (g9.below.mono HBW.out.size))
              generalize g9.at' = w19 at HFB ⊢
              go_wp2_with fail
              go_ret
              exact ⟨by simp, HFB.out⟩
          · have hlt : ¬ (i : Int) + 1 < (L.length : Int) := by omega
            have hlt2 : (i : Int) < (L.length : Int) := by omega
            have hltn : 0 < L.length := by omega
            clear hBn
            obtain ⟨gA, eA, _⟩ := row6 HROW.out h1
            subst eA
            go_upto_region 16 with fail
            go_cut [141] from 88 to 140 (fun s141 wd => s141 = .bool false ∧ Below wc.heap.size wc wd)
            case first =>
              obtain ⟨q0, q1, q2, q3, q4, q5, _⟩ := HQ.out.1.all
              have hzlt := HQ.out.1.lt
              have a0 := Gb.cell q0 hzlt
              have a1 := Gb.cell q1 hzlt
              have a2 := Gb.cell q2 hzlt
              have a3 := Gb.cell q3 hzlt
              have a4 := Gb.cell q4 hzlt
              have a5 := Gb.cell q5 hzlt
              clear q0 q1 q2 q3 q4 q5 hzlt
              obtain ⟨q0, q1, q2, q3, q4, q5, _⟩ := HQ.out.2.1.all
              have hzlt := HQ.out.2.1.lt
              have b0 := Gb.cell q0 hzlt
              have b1 := Gb.cell q1 hzlt
              have b2 := Gb.cell q2 hzlt
              have b3 := Gb.cell q3 hzlt
              have b4 := Gb.cell q4 hzlt
              have b5 := Gb.cell q5 hzlt
              clear q0 q1 q2 q3 q4 q5 hzlt
              obtain ⟨gd, eAd, q0, q1, q2, q3, q4, q5⟩ := row6 HROW.out h1
              have hglt := World.block_lt_of_cell? wc _ q0
              have d0 := Gb.cell q0 hglt
              have d1 := Gb.cell q1 hglt
              have d2 := Gb.cell q2 hglt
              have d3 := Gb.cell q3 hglt
              have d4 := Gb.cell q4 hglt
              have d5 := Gb.cell q5 hglt
              clear q0 q1 q2 q3 q4 q5 hglt
              simp only [Option.some.injEq, Addr.mk.injEq, and_true] at eAd
              subst eAd
              refine region_below (by kernel_rfl) (by kernel_rfl) ?_
              repeat (go_big_quiet_step ((go_at_call 56; first | with_reducible_and_instances exact Gb.calls _ (lis12 r1 _) | with_reducible_and_instances exact Gb.calls _ (lis12 r2 _) | exact Gb.calls _ (lis12 r1 _) | exact Gb.calls _ (lis12 r2 _))))
              refine wpQuiet_nil ?_
              rintro _ ⟨g9, rfl⟩
              go_wp2_with fail
              go_meet
              case rel => exact ⟨(by simp), g9.below⟩
            case rest =>
              obtain ⟨rfl, hb18⟩ := hcut
              have HROW := Lib.hid ((Kp.of_below hb18 (fun _ => False)).own HROW.out (fun _ _ => id))
              have HQ := Lib.hid (And.intro (HQ.out.2.2.1.below hb18) (HQ.out.2.2.2.below hb18))
              have HBW := Lib.hid (HBW.out.trans (hb18.mono HBW.out.size))
              clear hb18
              obtain ⟨rfl, h3, h4⟩ : ok3 = true ∧ L[0]? = some r3 ∧ L[L.length - 1]? = some r4 := by
                rcases HE.out with ⟨h0, _⟩ | ⟨_, h1, h2, h3⟩
                · omega
                · exact ⟨h1, h2, h3⟩
              have hlt0 : (0 : Int) < (L.length : Int) := by omega
              have hw9 : wrap64 ((L.length : Int) - 1) = (L.length : Int) - 1 := by rw [IntWalk.wrap64_in _ (by omega)]
              have hn0 : (0 : Int) ≤ (L.length : Int) - 1 := by omega
              have hnl : (L.length : Int) - 1 < (L.length : Int) := by omega
              go_upto_region 18 with fail
              obtain ⟨q0, q1, q2, q3, q4, q5, _⟩ := HQ.out.1.all
              have hzlt := HQ.out.1.lt
              have a0 := Gb.cell q0 hzlt
              have a1 := Gb.cell q1 hzlt
              have a2 := Gb.cell q2 hzlt
              have a3 := Gb.cell q3 hzlt
              have a4 := Gb.cell q4 hzlt
              have a5 := Gb.cell q5 hzlt
              clear q0 q1 q2 q3 q4 q5 hzlt
              obtain ⟨q0, q1, q2, q3, q4, q5, _⟩ := HQ.out.2.all
              have hzlt := HQ.out.2.lt
              have b0 := Gb.cell q0 hzlt
              have b1 := Gb.cell q1 hzlt
              have b2 := Gb.cell q2 hzlt
              have b3 := Gb.cell q3 hzlt
              have b4 := Gb.cell q4 hzlt
              have b5 := Gb.cell q5 hzlt
              clear q0 q1 q2 q3 q4 q5 hzlt
              obtain ⟨gc, eAc, q0, q1, q2, q3, q4, q5⟩ := row6 HROW.out h3
              have hglt := World.block_lt_of_cell? wc _ q0
              have c0 := Gb.cell q0 hglt
              have c1 := Gb.cell q1 hglt
              have c2 := Gb.cell q2 hglt
              have c3 := Gb.cell q3 hglt
              have c4 := Gb.cell q4 hglt
              have c5 := Gb.cell q5 hglt
              clear q0 q1 q2 q3 q4 q5 hglt
              obtain ⟨gd, eAd, q0, q1, q2, q3, q4, q5⟩ := row6 HROW.out h4
              have hglt := World.block_lt_of_cell? wc _ q0
              have d0 := Gb.cell q0 hglt
              have d1 := Gb.cell q1 hglt
              have d2 := Gb.cell q2 hglt
              have d3 := Gb.cell q3 hglt
              have d4 := Gb.cell q4 hglt
              have d5 := Gb.cell q5 hglt
              clear q0 q1 q2 q3 q4 q5 hglt
              simp only [Option.some.injEq, Addr.mk.injEq, and_true] at eAc
              subst eAc
              simp only [Option.some.injEq, Addr.mk.injEq, and_true] at eAd
              subst eAd
              clear h3 h4 HROW HQ
              refine region_below (by kernel_rfl) (by kernel_rfl) ?_
              repeat (go_big_quiet_step ((go_at_call 56; first | with_reducible_and_instances exact Gb.calls _ (lis12 r3 _) | with_reducible_and_instances exact Gb.calls _ (lis12 r4 _) | exact Gb.calls _ (lis12 r3 _) | exact Gb.calls _ (lis12 r4 _))))
              refine wpQuiet_nil ?_
              rintro _ ⟨g9, rfl⟩
              have HFB := Lib.hid (HBW.out.trans (g9.below.mono HBW.out.size))
              generalize g9.at' = w19 at HFB ⊢
              go_wp2_with fail
              go_ret
              exact ⟨by simp, HFB.out⟩
      · have hTB := HEX.out
        simp only [if_true] at hTB
        rw [hTB] at HF
        clear HEX hTB
        obtain ⟨rfl, h1⟩ : ok1 = true ∧ L[B]? = some r1 := by
          rcases HF.out with ⟨h0, _⟩ | ⟨h0, h1, h2⟩
          · omega
          · exact ⟨h1, by simpa using h2⟩
        obtain ⟨rfl, rfl⟩ : ok2 = true ∧ r2 = r1 := by
          rcases HC'.out with ⟨h2, h3⟩ | ⟨_, h3, _⟩
          · rw [h1] at h3
            exact ⟨h2, (Option.some.inj h3).symm⟩
          · have := (List.getElem?_eq_some_iff.1 h1).1
            omega
        have hw1 : wrap64 ((B : Int) - 1) = (B : Int) - 1 := IntWalk.wrap64_in _ (by omega)
        clear HF
        have hltn : 0 < L.length := by have := (List.getElem?_eq_some_iff.1 h1).1; omega
        obtain ⟨gA, eA, _⟩ := row6 HROW.out h1
        subst eA
        go_upto_region 16 with fail
        go_cut [141] from 88 to 140 (fun s141 wd => s141 = .bool false ∧ Below wc.heap.size wc wd)
        case first =>
          have hlt : (B : Int) < (L.length : Int) := by have := (List.getElem?_eq_some_iff.1 h1).1; omega
          obtain ⟨q0, q1, q2, q3, q4, q5, _⟩ := HQ.out.1.all
          have hzlt := HQ.out.1.lt
          have a0 := Gb.cell q0 hzlt
          have a1 := Gb.cell q1 hzlt
          have a2 := Gb.cell q2 hzlt
          have a3 := Gb.cell q3 hzlt
          have a4 := Gb.cell q4 hzlt
          have a5 := Gb.cell q5 hzlt
          clear q0 q1 q2 q3 q4 q5 hzlt
          obtain ⟨q0, q1, q2, q3, q4, q5, _⟩ := HQ.out.2.1.all
          have hzlt := HQ.out.2.1.lt
          have b0 := Gb.cell q0 hzlt
          have b1 := Gb.cell q1 hzlt
          have b2 := Gb.cell q2 hzlt
          have b3 := Gb.cell q3 hzlt
          have b4 := Gb.cell q4 hzlt
          have b5 := Gb.cell q5 hzlt
          clear q0 q1 q2 q3 q4 q5 hzlt
          obtain ⟨gc, eAc, q0, q1, q2, q3, q4, q5⟩ := row6 HROW.out h1
          have hglt := World.block_lt_of_cell? wc _ q0
          have c0 := Gb.cell q0 hglt
          have c1 := Gb.cell q1 hglt
          have c2 := Gb.cell q2 hglt
          have c3 := Gb.cell q3 hglt
          have c4 := Gb.cell q4 hglt
          have c5 := Gb.cell q5 hglt
          clear q0 q1 q2 q3 q4 q5 hglt
          simp only [Option.some.injEq, Addr.mk.injEq, and_true] at eAc
          subst eAc
          refine region_below (by kernel_rfl) (by kernel_rfl) ?_
          repeat (go_big_quiet_step ((go_at_call 56; first | with_reducible_and_instances exact Gb.calls _ (lis12 r1 _) | with_reducible_and_instances exact Gb.calls _ (lis12 r2 _) | exact Gb.calls _ (lis12 r1 _) | exact Gb.calls _ (lis12 r2 _))))
          refine wpQuiet_nil ?_
          rintro _ ⟨g9, rfl⟩
          go_wp2_with fail
          go_meet
          case rel => exact ⟨(by simp), g9.below⟩
        case rest =>
          obtain ⟨rfl, hb18⟩ := hcut
          have HROW := Lib.hid ((Kp.of_below hb18 (fun _ => False)).own HROW.out (fun _ _ => id))
          have HQ := Lib.hid (And.intro (HQ.out.2.2.1.below hb18) (HQ.out.2.2.2.below hb18))
          have HBW := Lib.hid (HBW.out.trans (hb18.mono HBW.out.size))
          clear hb18
          obtain ⟨rfl, h3, h4⟩ : ok3 = true ∧ L[0]? = some r3 ∧ L[L.length - 1]? = some r4 := by
            rcases HE.out with ⟨h0, _⟩ | ⟨_, h1, h2, h3⟩
            · omega
            · exact ⟨h1, h2, h3⟩
          have hlt0 : (0 : Int) < (L.length : Int) := by omega
          have hw9 : wrap64 ((L.length : Int) - 1) = (L.length : Int) - 1 := by rw [IntWalk.wrap64_in _ (by omega)]
          have hn0 : (0 : Int) ≤ (L.length : Int) - 1 := by omega
          have hnl : (L.length : Int) - 1 < (L.length : Int) := by omega
          go_upto_region 18 with fail
          obtain ⟨q0, q1, q2, q3, q4, q5, _⟩ := HQ.out.1.all
          have hzlt := HQ.out.1.lt
          have a0 := Gb.cell q0 hzlt
          have a1 := Gb.cell q1 hzlt
          have a2 := Gb.cell q2 hzlt
          have a3 := Gb.cell q3 hzlt
          have a4 := Gb.cell q4 hzlt
          have a5 := Gb.cell q5 hzlt
          clear q0 q1 q2 q3 q4 q5 hzlt
          obtain ⟨q0, q1, q2, q3, q4, q5, _⟩ := HQ.out.2.all
          have hzlt := HQ.out.2.lt
          have b0 := Gb.cell q0 hzlt
          have b1 := Gb.cell q1 hzlt
          have b2 := Gb.cell q2 hzlt
          have b3 := Gb.cell q3 hzlt
          have b4 := Gb.cell q4 hzlt
          have b5 := Gb.cell q5 hzlt
          clear q0 q1 q2 q3 q4 q5 hzlt
          obtain ⟨gc, eAc, q0, q1, q2, q3, q4, q5⟩ := row6 HROW.out h3
          have hglt := World.block_lt_of_cell? wc _ q0
          have c0 := Gb.cell q0 hglt
          have c1 := Gb.cell q1 hglt
          have c2 := Gb.cell q2 hglt
          have c3 := Gb.cell q3 hglt
          have c4 := Gb.cell q4 hglt
          have c5 := Gb.cell q5 hglt
          clear q0 q1 q2 q3 q4 q5 hglt
          obtain ⟨gd, eAd, q0, q1, q2, q3, q4, q5⟩ := row6 HROW.out h4
          have hglt := World.block_lt_of_cell? wc _ q0
          have d0 := Gb.cell q0 hglt
          have d1 := Gb.cell q1 hglt
          have d2 := Gb.cell q2 hglt
          have d3 := Gb.cell q3 hglt
          have d4 := Gb.cell q4 hglt
          have d5 := Gb.cell q5 hglt
          clear q0 q1 q2 q3 q4 q5 hglt
          simp only [Option.some.injEq, Addr.mk.injEq, and_true] at eAc
          subst eAc
          simp only [Option.some.injEq, Addr.mk.injEq, and_true] at eAd
          subst eAd
          clear h3 h4 HROW HQ
          refine region_below (by kernel_rfl) (by kernel_rfl) ?_
          repeat (go_big_quiet_step ((go_at_call 56; first | with_reducible_and_instances exact Gb.calls _ (lis12 r3 _) | with_reducible_and_instances exact Gb.calls _ (lis12 r4 _) | exact Gb.calls _ (lis12 r3 _) | exact Gb.calls _ (lis12 r4 _))))
          refine wpQuiet_nil ?_
          rintro _ ⟨g9, rfl⟩
          have HFB := Lib.hid (HBW.out.trans (g9.below.mono HBW.out.size))
          generalize g9.at' = w19 at HFB ⊢
          go_wp2_with fail
          go_ret
          exact ⟨by simp, HFB.out⟩
end
end Go.Proofs.YtkkfhbcnfknmaaaGreat

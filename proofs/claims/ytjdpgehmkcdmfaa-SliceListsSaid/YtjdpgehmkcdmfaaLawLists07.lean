/- For any list of values and any two pairs of numbers: a vector of any length up to 1100 is made of the list, or is too long; all of it, any page and any cut of it are the list's, or the errors that the document says; at last nothing is held (SliceLists returns true; the arguments read as they did). No condition. -/
import Derived.Test.YtjdpgehmkcdmfaaRows
import Derived.Test.YtjdpgehmkcdmfaaLives07
import Derived.Test.YtjdpgehmkcdmfaaCut07
import Derived.Test.YtjdpgehmkcdmfaaSub07
import Derived.Test.YtjdpgehmkcdmfaaPair07
import Derived.OpenShut
import Derived.ShutString
import Derived.Lib.SmallJoins
import Derived.SizedLaws
import Derived.Deep.CutBlock
import Derived.Deep.CutRange
import Derived.Deep.RegionHeld3
namespace Go.Proofs.Ytjdpgehmkcdmfaa.sliceLists
open Go.ChangeShapes Go.WideShapes Go.ChangeAt Go.RowKit Go.Joins Go.Deep

theorem own : ownKnob Try.prog.godebug = none := by kernel_rfl
theorem laidOut : laidOutB Try.prog = true := by kernel_rfl
theorem len_of (n : Int) : ∃ k : Nat, k ≤ 1099 ∧ wrap64 ((IntKind.u64.wrap n).tmod 1100) = k := by
  have h0 : 0 ≤ IntKind.u64.wrap n := by rw [IntKind.wrap_u64]; omega
  rw [Int.tmod_eq_emod_of_nonneg h0]
  have h1 : 0 ≤ IntKind.u64.wrap n % 1100 := by omega
  have h2 : IntKind.u64.wrap n % 1100 < 1100 := by omega
  rw [IntWalk.wrap64_in (IntKind.u64.wrap n % 1100) (by omega)]
  exact ⟨(IntKind.u64.wrap n % 1100).toNat, by omega, by omega⟩
/-- Worlds that have grown, in the last region. -/
structure Sx (wx W : World) : Prop where
  bel : Below wx.heap.size wx W
theorem Sx.grow {wx W W' : World} (h : Sx wx W) (hb : Below W.heap.size W W') : Sx wx W' := ⟨h.bel.trans (hb.mono h.bel.size)⟩
theorem Sx.drew {wx W : World} (h : Sx wx W) : Sx wx W.drew := ⟨h.bel.drew⟩
theorem rem_in (a m : Int) (hm : 0 < m) : -m < a.tmod m ∧ a.tmod m < m := by
  have h1 := Int.tmod_lt_of_pos a hm
  refine ⟨?_, h1⟩
  have h2 := Int.tmod_lt_of_pos (-a) hm
  rw [Int.neg_tmod] at h2
  omega

abbrev pagg (a b : Int) : Value := .agg #[.int .i64 a, .int .i64 b]
set_option maxRecDepth 100000 in
set_option maxHeartbeats 8000000 in
theorem walk (A : Option Addr) (l : Vs) (c : Nat) (s0 s1 p0 p1 : Int) (w : World) (hl : Lst w A l) (hn : l.length ≤ 4398046511104) :
    Calls Try.prog 5 #[.slice A l.length c, pagg s0 s1, pagg p0 p1] w fun e w' => e = .returned (.bool true) ∧ Below w.heap.size w w' := by
  have q4 := (C2.new w 63 (.int .i64 s0) (.int .i64 s1)).alloc (.cells #[.int .i64 p0, .int .i64 p1] 63)
  have q5 := C2.new (w.alloc (.cells #[.int .i64 s0, .int .i64 s1] 63)) 63 (.int .i64 p0) (.int .i64 p1)
  rw [show (w.alloc (.cells #[.int .i64 s0, .int .i64 s1] 63)).heap.size = w.heap.size + 1 by simp] at q5
  have hb : Below w.heap.size w ((w.alloc (.cells #[.int .i64 s0, .int .i64 s1] 63)).alloc (.cells #[.int .i64 p0, .int .i64 p1] 63)) := ((Below.refl _ w).alloc (Nat.le_refl _) _).alloc (by simp) _
  have HQ := Lib.hid (And.intro q4 q5)
  have HB := Lib.hid hb
  have HLS := Lib.hid hl
  clear hl q4 q5 hb
  go_enter Try.func5, Try.ntmps5
  go_wp2_with fail
  refine (lives7 _).mono ?_
  rintro e w1 ⟨rfl, hb1⟩
  have HB1 := Lib.hid (HB.out.trans (hb1.mono HB.out.size))
  have HQ1 := Lib.hid (And.intro (HQ.out.1.below hb1) (HQ.out.2.below hb1))
  clear hb1 HB HQ
  go_wp2_with fail
  refine (vfits l A c w1 (HLS.out.below HB1.out) hn).mono ?_
  rintro e w2 ⟨r, rfl, hr, hb2⟩
  have HB2 := Lib.hid (HB1.out.trans (hb2.mono HB1.out.size))
  have HQ2 := Lib.hid (And.intro (HQ1.out.1.below hb2) (HQ1.out.2.below hb2))
  clear hb2 HB1 HQ1
  cases r
  · go_wp2_with fail
    refine (lives7 _).mono ?_
    rintro e w3 ⟨rfl, hb3⟩
    have HB3 := Lib.hid (HB2.out.trans (hb3.mono HB2.out.size))
    clear hb3
    go_wp2_with fail
    go_ret
    exact ⟨rfl, HB3.out⟩
  · have h60 := hr rfl
    obtain ⟨z4, hz4⟩ : ∃ z, z = w.heap.size := ⟨_, rfl⟩
    obtain ⟨z5, hz5⟩ : ∃ z, z = w.heap.size + 1 := ⟨_, rfl⟩
    rw [← hz5] at HQ2 ⊢
    rw [← hz4] at HQ2 ⊢
    have HZ := Lib.hid (show w.heap.size ≤ z4 ∧ w.heap.size ≤ z5 from by omega)
    obtain ⟨k, hk1, hk⟩ := len_of s0
    have c0 := HQ2.out.1.c0
    clear hr hz4 hz5
    go_wp2_with fail
    rw [hk]
    refine (vfill l k A c w2 (HLS.out.below HB2.out) (by omega) (by omega)).mono ?_
    rintro e w3 ⟨x, rfl, ho, hb3⟩
    have HB3 := Lib.hid (HB2.out.trans (hb3.mono HB2.out.size))
    have HQ3 := Lib.hid (And.intro (HQ2.out.1.below hb3) (HQ2.out.2.below hb3))
    have hlen := fillN_length l k
    have HO := Lib.hid (show w3.ownsRow w2.heap.size 38 3 x (fillN l k).length ((fillN l k).flatMap cells3) by rw [hlen]; exact ho)
    have HH := Lib.hid hlen
    generalize fillN l k = lv at HO HH
    obtain ⟨A1, m1, rfl, _⟩ := (Rd.of_own ho).form
    clear ho hb3 hk hlen c0
    go_wp2_with fail
    refine (anew 4096 w3 (by omega) (by omega)).mono ?_
    rintro e w4 ⟨rfl, ha, hb4⟩
    have HL4 := Lib.hid (show Lone w w4 w3.heap.size 4096 (fun _ => none) (fun q => q = w3.heap.size) from ⟨ha, HB3.out.trans (hb4.mono HB3.out.size), fun q e => by have := HB3.out.size; omega⟩)
    have HQ4 := Lib.hid (And.intro (HQ3.out.1.below hb4) (HQ3.out.2.below hb4))
    have HO4 := Lib.hid (Rd.below (Rd.of_own HO.out) hb4)
    have HOF := Lib.hid (show ∀ q, (Value.slice A1 k m1).ownBlock = some q → q < w4.heap.size ∧ ¬ q = w3.heap.size from fun q hq => by have := (HO.out.lt q hq).2; have := hb4.size; omega)
    have HNF := Lib.hid (show ¬ z4 = w3.heap.size ∧ ¬ z5 = w3.heap.size from by have h1 := HQ3.out.1.lt; have h2 := HQ3.out.2.lt; omega)
    obtain ⟨b, hbb⟩ : ∃ b, b = w3.heap.size := ⟨_, rfl⟩
    rw [← hbb] at HL4 HOF HNF ⊢
    clear hbb ha hb4 HB2 HB3 HQ2 HQ3 HO
    go_wp2_with fail
    refine (vfrom lv _ w4 HL4.out.ar HO4.out (fun q hq => (HOF.out q hq).2) (fun _ => Nat.zero_le _)).mono ?_
    rintro e w5 hfd
    by_cases hbig : (1024 : Int) < (k : Int)
    · obtain ⟨er, rfl, hs, he⟩ : ∃ er : Int, e = .returned (.tuple #[vagg ⟨0, 0, 0⟩, .int .i64 er]) ∧ Stp w4 w5 b 4096 (fun _ => none) (fun q => q = b) ∧ er = 12 := by
        rcases hfd with ⟨v, ks, M', h1, h2, h3⟩ | ⟨er, h1, h2, h3⟩
        · have := h2.le; have := HH.out; omega
        · refine ⟨er, h1, h2, ?_⟩
          rcases h3 with h3 | ⟨h3, h4⟩
          · exact h3.1
          · rw [live_zero fun _ => rfl] at h4; omega
      subst he
      have HL5 := Lib.hid (HL4.out.stp hs)
      generalize Fn _ _ _ = F5 at HL5
      clear hs hfd
      go_wp2_with fail
      refine (alive b 4096 (fun _ => none) F5 _ (HL5.out.alloc _).ar).mono ?_
      rintro e w' ⟨rfl, rfl⟩
      rw [live_zero fun _ => rfl]
      go_wp2_with fail
      go_ret
      exact ⟨rfl, (HL5.out.alloc _).bel⟩
    · have hlv := HH.out
      obtain ⟨v, ks, M', rfl, hM, hs⟩ := from_ok hfd (by omega) (by rw [live_zero fun _ => rfl]; decide)
      obtain ⟨vn, vr, vt⟩ := v
      obtain rfl : vn = k := hM.n.trans hlv
      have HM := Lib.hid hM
      have HL5 := Lib.hid (HL4.out.stp hs)
      have HQ5 := Lib.hid (And.intro (HQ4.out.1.kp hs.kp HNF.out.1) (HQ4.out.2.kp hs.kp HNF.out.2))
      have HO5 := Lib.hid (hs.kp.rd HO4.out (fun q hq => (HOF.out q hq).2))
      have hFF : ∀ q, q < w4.heap.size → ¬ q = b → ¬ Fn (fun q => q = b) w4 w5 q := fun q hq hn hf => hf.elim hn (fun hf => by omega)
      have HNF5 := Lib.hid (show ¬ Fn (fun q => q = b) w4 w5 z4 ∧ ¬ Fn (fun q => q = b) w4 w5 z5 ∧ ∀ q, (Value.slice A1 vn m1).ownBlock = some q → ¬ Fn (fun q => q = b) w4 w5 q from ⟨hFF z4 HQ4.out.1.lt HNF.out.1, hFF z5 HQ4.out.2.lt HNF.out.2, fun q hq => hFF q (HOF.out q hq).1 (HOF.out q hq).2⟩)
      generalize Fn _ _ _ = F5 at HL5 HNF5
      have q10 := C3.new w5 30 (.int .i64 (vn : Int)) (.int .i64 (vr : Int)) (.int .i64 (vt : Int))
      have hb6 : Below w5.heap.size w5 (w5.alloc (.cells #[.int .i64 (vn : Int), .int .i64 (vr : Int), .int .i64 (vt : Int)] 30)) := (Below.refl _ w5).alloc (Nat.le_refl _) _
      have HQ6 := Lib.hid (And.intro (HQ5.out.1.below hb6) (And.intro (HQ5.out.2.below hb6) q10))
      have HN6 := Lib.hid (show ¬ F5 w5.heap.size from fun hf => absurd (HL5.out.ar.lt hf) (Nat.lt_irrefl _))
      have HL6 := Lib.hid (HL5.out.below hb6)
      have HO6 := Lib.hid (HO5.out.below hb6)
      clear hs hM hfd hFF q10 hb6 HL4 HQ4 HO4 HOF HNF HQ5 HO5 HL5
      go_wp2_with fail
      generalize w5.alloc (.cells #[.int .i64 (vn : Int), .int .i64 (vr : Int), .int .i64 (vt : Int)] 30) = w6 at HQ6 HL6 HO6 ⊢
      obtain ⟨z10, hz10⟩ : ∃ z, z = w5.heap.size := ⟨_, rfl⟩
      rw [← hz10] at HQ6 HN6 ⊢
      clear hz10
      refine (vall ⟨vn, vr, vt⟩ lv w6 HL6.out.ar HM.out.vec).mono ?_
      rintro e w7 ⟨y, rfl, hy, hb7⟩
      have HB7 := Lib.hid hb7
      have HY := Lib.hid (Rd.of_own hy)
      clear hy hb7
      go_wp2_with fail
      refine (vequal lv y (.slice A1 vn m1) w7 HY.out (HO6.out.below HB7.out) (by omega)).mono ?_
      rintro e w8 ⟨rfl, hb8⟩
      have HB8 := Lib.hid (HB7.out.trans (hb8.mono HB7.out.size))
      clear hb8 HB7 HY
      have c5 := (HQ6.out.2.1.below HB8.out)
      obtain ⟨p0c, p1c, _⟩ := c5.all
      go_wp2_with fail
      go_quiet (fail)
      obtain ⟨f, hf⟩ : ∃ f, f = p0.tmod 1100 := ⟨_, rfl⟩
      obtain ⟨n, hn'⟩ : ∃ n, n = p1.tmod 80 := ⟨_, rfl⟩
      have hfb := rem_in p0 1100 (by decide)
      have hnb := rem_in p1 80 (by decide)
      rw [← hf] at hfb ⊢
      rw [← hn'] at hnb ⊢
      have HB9 := Lib.hid (HB8.out.trans ((below_drewN w8 nq).mono HB8.out.size))
      generalize w8.drewN nq = w9 at HB9 ⊢
      have c10 := HQ6.out.2.2.below HB9.out
      have C10 := Lib.hid c10
      obtain ⟨d0, d1, d2, _⟩ := c10.all
      clear c10 c5 p0c p1c HB8 hf hn'
      go_wp2_with fail
      refine (vpage_any ⟨vn, vr, vt⟩ lv f n w9 (HL6.out.ar.below HB9.out) HM.out.vec).mono ?_
      rintro e w10 ⟨x, xs, er, rfl, hrd, hbp, hcase⟩
      obtain ⟨A2, m2, rfl, _⟩ := hrd.form
      have HBP := Lib.hid (HB9.out.trans (hbp.mono HB9.out.size))
      have HRD := Lib.hid hrd
      have HCS := Lib.hid hcase
      clear hbp hrd hcase d0 d1 d2 C10
      go_upto_block 0 with fail
      go_cut [106] from 90 to 135 (fun _ wc => Below w6.heap.size w6 wc)
      case first =>
        rcases HCS.out with ⟨hn1, rfl, rfl⟩ | ⟨hn1, hf1, rfl, rfl⟩ | ⟨hn1, hf1, rfl, hxs⟩
        · rcases Int.lt_or_le n 0 with hn2 | hn2
          · clear hn1
            go_wp2_with fail
            go_meet
            exact HBP.out
          · have hn3 : ¬ n < 0 := by omega
            have hn4 : 64 < n := by omega
            clear hn1 hn2
            go_wp2_with fail
            go_meet
            exact HBP.out
        · have hn3 : ¬ n < 0 := by omega
          have hn4 : ¬ 64 < n := by omega
          rcases Int.lt_or_le f 0 with hf2 | hf2
          · clear hf1 hn1
            go_wp2_with fail
            go_meet
            exact HBP.out
          · have hf3 : ¬ f < 0 := by omega
            have hf4 : (vn : Int) < f := by omega
            clear hf1 hf2 hn1
            go_wp2_with fail
            go_meet
            exact HBP.out
        · have hn3 : ¬ n < 0 := by omega
          have hn4 : ¬ 64 < n := by omega
          have hf3 : ¬ f < 0 := by omega
          have hf4 : ¬ (vn : Int) < f := by omega
          obtain ⟨fN, rfl⟩ := Int.eq_ofNat_of_zero_le hf1.1
          obtain ⟨nN, rfl⟩ := Int.eq_ofNat_of_zero_le hn1.1
          have HX := Lib.hid hxs
          rw [Int.toNat_natCast, Int.toNat_natCast] at hxs
          have hxl : xs.length ≤ 1000000 := by rw [hxs, List.length_take]; omega
          by_cases hm : (vn : Int) < (fN : Int) + (nN : Int)
          · have hx2 : xs = (lv.drop fN).take (vn - fN) := by
              rw [hxs, List.take_of_length_le (by rw [List.length_drop]; omega), List.take_of_length_le (by rw [List.length_drop]; omega)]
            have RS := Lib.hid (rd_sub (by have := HO6.out.below HBP.out; rw [hlv] at this; exact this) hlv (show fN ≤ vn by omega) (Nat.le_refl _) hx2)
            clear hn1 hf1 hxs hx2
            by_cases hcap : m1 = fN
            · have RSb := Lib.hid (by have := RS.out.2 hcap; rw [show vn - fN = 0 by omega] at this; exact this)
              clear RS
              subst hcap
              go_wp2_with fail
              refine (vequal xs _ _ w10 HRD.out (RSb.out) hxl).mono ?_
              rintro e w11 ⟨rfl, hb11⟩
              have HB11 := Lib.hid (HBP.out.trans (hb11.mono HBP.out.size))
              clear hb11
              go_wp2_with fail
              go_meet
              exact HB11.out
            · have RSa := Lib.hid (RS.out.1 hcap)
              clear RS
              go_wp2_with fail
              refine (vequal xs _ _ w10 HRD.out (RSa.out) hxl).mono ?_
              rintro e w11 ⟨rfl, hb11⟩
              have HB11 := Lib.hid (HBP.out.trans (hb11.mono HBP.out.size))
              clear hb11
              go_wp2_with fail
              go_meet
              exact HB11.out
          · have hx2 : xs = (lv.drop fN).take (fN + nN - fN) := by rw [hxs, Nat.add_sub_cancel_left]
            have RS0 := rd_sub (by have := HO6.out.below HBP.out; rw [hlv] at this; exact this) hlv (show fN ≤ fN + nN by omega) (by omega) hx2
            rw [Nat.add_sub_cancel_left] at RS0
            have RS := Lib.hid RS0
            clear hn1 hf1 hxs hx2 RS0
            by_cases hcap : m1 = fN
            · have RSb := Lib.hid (RS.out.2 hcap)
              clear RS
              subst hcap
              go_wp2_with fail
              refine (vequal xs _ _ w10 HRD.out (RSb.out) hxl).mono ?_
              rintro e w11 ⟨rfl, hb11⟩
              have HB11 := Lib.hid (HBP.out.trans (hb11.mono HBP.out.size))
              clear hb11
              go_wp2_with fail
              go_meet
              exact HB11.out
            · have RSa := Lib.hid (RS.out.1 hcap)
              clear RS
              go_wp2_with fail
              refine (vequal xs _ _ w10 HRD.out (RSa.out) hxl).mono ?_
              rintro e w11 ⟨rfl, hb11⟩
              have HB11 := Lib.hid (HBP.out.trans (hb11.mono HBP.out.size))
              clear hb11
              go_wp2_with fail
              go_meet
              exact HB11.out
      case rest =>
        have HC := Lib.hid hcut
        clear hcut HRD HCS HBP HB9
        have c4 := HQ6.out.1.below HC.out
        have c10 := HQ6.out.2.2.below HC.out
        have y1 := c4.c1
        obtain ⟨d0, d1, d2, _⟩ := c10.all
        obtain ⟨r, hr⟩ : ∃ r, r = s1.tmod 300 := ⟨_, rfl⟩
        have hrb := rem_in s1 300 (by decide)
        rw [← hr] at hrb
        clear c4 c10
        go_wp2_with fail
        rw [← hr]
        obtain ⟨t, ht⟩ : ∃ t, t = f + r := ⟨_, rfl⟩
        rw [← ht]
        have HRR := Lib.hid (fun q => HM.out.rfb (B := 1000) (by decide) (fun _ => Nat.zero_le _) q)
        clear y1 d0 d1 d2
        refine (vcut_any ⟨vn, vr, vt⟩ lv f t wc (HL6.out.ar.below HC.out) HM.out.vec HRR.out).mono ?_
        rintro e w12 (⟨hno, rfl, hb12⟩ | ⟨fN, tN, rfl, rfl, hft, htl, hfd⟩)
        · have HB12 := Lib.hid (HC.out.trans (hb12.mono HC.out.size))
          have q17 := C3.new w12 30 (.int .i64 0) (.int .i64 0) (.int .i64 0)
          have hb13 : Below w12.heap.size w12 (w12.alloc (.cells #[.int .i64 0, .int .i64 0, .int .i64 0] 30)) := (Below.refl _ w12).alloc (Nat.le_refl _) _
          have HB13 := Lib.hid (HB12.out.trans (hb13.mono HB12.out.size))
          have key : ∀ (Q : Prop), (f < 0 → Q) → (¬ f < 0 → t < f → Q) → (¬ f < 0 → ¬ t < f → (vn : Int) < t → Q) → Q := fun Q h1 h2 h3 => by
            by_cases e1 : f < 0
            · exact h1 e1
            · by_cases e2 : t < f
              · exact h2 e1 e2
              · exact h3 e1 e2 (by omega)
          clear hno hb12 hb13 q17 ht hr
          refine key _ (fun hf1 => ?_) (fun hf1 hf2 => ?_) (fun hf1 hf2 hf3 => ?_)
          all_goals
            go_wp2_with fail
            refine (drop_nil 0 _ (HL6.out.ar.below HB13.out) HRR.out).mono ?_
            rintro e w14 ⟨rfl, hs14⟩
            have HL14 := Lib.hid ((HL6.out.below HB13.out).stp hs14)
            have c10 := (HQ6.out.2.2.below HB13.out).kp hs14.kp HN6.out
            obtain ⟨d0, d1, d2, _⟩ := c10.all
            clear hs14 c10
            go_wp2_with fail
            refine (drop_mine ⟨vn, vr, vt⟩ lv ks 4294967295 _ HL14.out.ar HM.out HRR.out).mono ?_
            rintro e w15 ⟨rfl, hs15⟩
            have HL15 := Lib.hid (HL14.out.stp hs15)
            clear hs15 d0 d1 d2 HL14
            go_wp2_with fail
            refine (alive b 4096 (fun _ => none) _ _ HL15.out.ar).mono ?_
            rintro e w' ⟨rfl, rfl⟩
            rw [live_zero fun _ => rfl]
            go_wp2_with fail
            go_ret
            exact ⟨rfl, HL15.out.bel⟩
        · obtain ⟨xs2, hxs2⟩ : ∃ xs2, xs2 = (lv.drop fN).take (tN - fN) := ⟨_, rfl⟩
          rw [← hxs2] at hfd
          have hxl2 : xs2.length ≤ 1000000 := by rw [hxs2, List.length_take]; omega
          have hlv3 : lv.length ≤ 1000000 := by omega
          have hcnt := HM.out.count
          have hlv2 := HM.out.lv
          rw [live_zero fun _ => rfl] at hlv2
          obtain ⟨⟨n2, r2, t2⟩, ks2, M2, rfl, hM2, hs12⟩ := from_ok hfd (by rw [hxs2, List.length_take]; omega) (by omega)
          have HM2 := Lib.hid hM2
          have HL12 := Lib.hid ((HL6.out.below HC.out).stp hs12)
          have HC10a := Lib.hid ((HQ6.out.2.2.below HC.out).kp hs12.kp HN6.out)
          have HRa := Lib.hid (hs12.kp.rd (HO6.out.below HC.out) HNF5.out.2.2)
          have HV2 := Lib.hid (HM.out.vec.keep (fun x hx => hM2.keep hx))
          have HRR2 := Lib.hid (fun q => hM2.rfb (B := 1000) (by decide) HRR.out q)
          have HN10a := Lib.hid (show ¬ Fn F5 wc w12 z10 from fun hf => hf.elim HN6.out (fun hf => by have := (HQ6.out.2.2.below HC.out).lt; omega))
          generalize Fn F5 wc w12 = F12 at HL12 HN10a
          have hb13 : Below w12.heap.size w12 (w12.alloc (.cells #[.int .i64 (n2 : Int), .int .i64 (r2 : Int), .int .i64 (t2 : Int)] 30)) := (Below.refl _ w12).alloc (Nat.le_refl _) _
          have HC17 := Lib.hid (C3.new w12 30 (.int .i64 (n2 : Int)) (.int .i64 (r2 : Int)) (.int .i64 (t2 : Int)))
          have HL13 := Lib.hid (HL12.out.below hb13)
          have HC10 := Lib.hid (HC10a.out.below hb13)
          have HRX := Lib.hid (HRa.out.below hb13)
          have HN10 := HN10a
          have hf3 : ¬ (fN : Int) < 0 := by omega
          have hf4 : ¬ (tN : Int) < (fN : Int) := by omega
          have hf5 : ¬ (vn : Int) < (tN : Int) := by omega
          have RS := Lib.hid (rd_sub (by have := HRX.out; rw [hlv] at this; exact this) hlv hft (by omega) hxs2)
          clear hfd hM2 hs12 hcnt hlv2 hb13 hxs2 HL12 HC10a HRa HN10a ht hr
          have hcapd : (m1 = fN ∧ tN = fN) ∨ ¬ m1 = fN := by omega
          clear hlv
          go_wp2_with fail
          generalize w12.alloc (.cells #[.int .i64 (n2 : Int), .int .i64 (r2 : Int), .int .i64 (t2 : Int)] 30) = w13 at HL13 HC10 HRX HC17 RS ⊢
          obtain ⟨z17, hz17⟩ : ∃ z, z = w12.heap.size := ⟨_, rfl⟩
          rw [← hz17] at HC17 ⊢
          clear hz17
          have HSX := Lib.hid (Sx.mk (Below.refl _ w13))
          have r17 : ∀ W, Sx w13 W → W.cell? ⟨z17, 0, none⟩ = some (.int .i64 (n2 : Int)) := fun W h => (HC17.out.below h.bel).c0
          have r18 : ∀ W, Sx w13 W → W.cell? ⟨z17, 1, none⟩ = some (.int .i64 (r2 : Int)) := fun W h => (HC17.out.below h.bel).c1
          have r19 : ∀ W, Sx w13 W → W.cell? ⟨z17, 2, none⟩ = some (.int .i64 (t2 : Int)) := fun W h => (HC17.out.below h.bel).c2
          have r10 : ∀ W, Sx w13 W → W.cell? ⟨z10, 0, none⟩ = some (.int .i64 (vn : Int)) := fun W h => (HC10.out.below h.bel).c0
          have r11 : ∀ W, Sx w13 W → W.cell? ⟨z10, 1, none⟩ = some (.int .i64 (vr : Int)) := fun W h => (HC10.out.below h.bel).c1
          have r12 : ∀ W, Sx w13 W → W.cell? ⟨z10, 2, none⟩ = some (.int .i64 (vt : Int)) := fun W h => (HC10.out.below h.bel).c2
          have HA2 := Lib.hid (fun W (h : Sx w13 W) => (vall ⟨n2, r2, t2⟩ xs2 W (HL13.out.ar.below h.bel) HM2.out.vec : Calls Try.prog 33 #[ap b, .agg #[.int .i64 (n2 : Int), .int .i64 (r2 : Int), .int .i64 (t2 : Int)]] W (Told W xs2)))
          have HA1 := Lib.hid (fun W (h : Sx w13 W) => (vall ⟨vn, vr, vt⟩ lv W (HL13.out.ar.below h.bel) HV2.out : Calls Try.prog 33 #[ap b, .agg #[.int .i64 (vn : Int), .int .i64 (vr : Int), .int .i64 (vt : Int)]] W (Told W lv)))
          have HE1 := Lib.hid (fun W y (h : Sx w13 W) (hy : Rd W y lv.length (lv.flatMap cells3)) => vequal lv y (.slice A1 vn m1) W hy (HRX.out.below h.bel) hlv3)
          rcases hcapd with ⟨hc1, hc2⟩ | hcap
          · have RSb := Lib.hid (by have := RS.out.2 hc1; rw [show tN - fN = 0 by omega] at this; exact this)
            clear RS
            subst hc1
            obtain rfl := hc2.symm
            have HE2 := Lib.hid (fun W y (h : Sx w13 W) (hy : Rd W y xs2.length (xs2.flatMap cells3)) => vequal xs2 y _ W hy (RSb.out.below h.bel) hxl2)
            go_wp2_with fail
            refine wp_region_noPanic ?_
            go_region_held (fun W => Sx w13 W)
              (first | with_reducible assumption | with_reducible exact HSX.out.drew | with_reducible exact HSX.out | (rename Sx _ _ => hH; with_reducible exact hH.grow hby) | with_reducible exact HSX.out.drew.grow hby)
              (first
                | (go_at_call 33; (with_reducible_and_instances refine (HA2.out _ (by first | assumption | exact HSX.out.drew)).mono ?_); rintro e wy ⟨y, rfl, hoy, hby⟩; obtain ⟨Ay, my, rfl, _⟩ := (Rd.of_own hoy).form; have hRy := Rd.of_own hoy; clear hoy)
                | (go_at_call 33; (with_reducible_and_instances refine (HA1.out _ (by first | assumption | exact HSX.out.drew)).mono ?_); rintro e wy ⟨y, rfl, hoy, hby⟩; obtain ⟨Ay, my, rfl, _⟩ := (Rd.of_own hoy).form; have hRz := Rd.of_own hoy; clear hoy)
                | (go_at_call 32; (with_reducible_and_instances refine (HE1.out _ _ (by assumption) hRz).mono ?_); rintro e wy ⟨rfl, hby⟩)
                | (go_at_call 32; (with_reducible_and_instances refine (HE2.out _ _ (by assumption) hRy).mono ?_); rintro e wy ⟨rfl, hby⟩))
            all_goals
              refine NoPanic.normal ?_
              rename Sx _ _ => hH
              have HBX := Lib.hid hH.bel
              clear hH
              have c17 := HC17.out.below HBX.out
              obtain ⟨d0, d1, d2, _⟩ := c17.all
              clear r10 r11 r12 r17 r18 r19
              go_wp2_with fail
              refine (drop_mine ⟨n2, r2, t2⟩ xs2 ks2 4294967295 _ (HL13.out.ar.below HBX.out) HM2.out HRR2.out).mono ?_
              rintro e w14 ⟨rfl, hs14⟩
              have HL14 := Lib.hid ((HL13.out.below HBX.out).stp hs14)
              have c10 := (HC10.out.below HBX.out).kp hs14.kp HN10.out
              clear d0 d1 d2 c17 hs14
              obtain ⟨d0, d1, d2, _⟩ := c10.all
              clear c10
              go_wp2_with fail
              refine (drop_mine ⟨vn, vr, vt⟩ lv ks 4294967295 _ HL14.out.ar HM.out HRR.out).mono ?_
              rintro e w15 ⟨rfl, hs15⟩
              have HL15 := Lib.hid (HL14.out.stp hs15)
              clear hs15 d0 d1 d2 HL14
              go_wp2_with fail
              refine (alive b 4096 (fun _ => none) _ _ HL15.out.ar).mono ?_
              rintro e w' ⟨rfl, rfl⟩
              rw [live_zero fun _ => rfl]
              go_wp2_with fail
              go_ret
              exact ⟨rfl, HL15.out.bel⟩
          · have RSa := Lib.hid (RS.out.1 hcap)
            clear RS
            have HE2 := Lib.hid (fun W y (h : Sx w13 W) (hy : Rd W y xs2.length (xs2.flatMap cells3)) => vequal xs2 y _ W hy (RSa.out.below h.bel) hxl2)
            go_wp2_with fail
            refine wp_region_noPanic ?_
            go_region_held (fun W => Sx w13 W)
              (first | with_reducible assumption | with_reducible exact HSX.out.drew | with_reducible exact HSX.out | (rename Sx _ _ => hH; with_reducible exact hH.grow hby) | with_reducible exact HSX.out.drew.grow hby)
              (first
                | (go_at_call 33; (with_reducible_and_instances refine (HA2.out _ (by first | assumption | exact HSX.out.drew)).mono ?_); rintro e wy ⟨y, rfl, hoy, hby⟩; obtain ⟨Ay, my, rfl, _⟩ := (Rd.of_own hoy).form; have hRy := Rd.of_own hoy; clear hoy)
                | (go_at_call 33; (with_reducible_and_instances refine (HA1.out _ (by first | assumption | exact HSX.out.drew)).mono ?_); rintro e wy ⟨y, rfl, hoy, hby⟩; obtain ⟨Ay, my, rfl, _⟩ := (Rd.of_own hoy).form; have hRz := Rd.of_own hoy; clear hoy)
                | (go_at_call 32; (with_reducible_and_instances refine (HE1.out _ _ (by assumption) hRz).mono ?_); rintro e wy ⟨rfl, hby⟩)
                | (go_at_call 32; (with_reducible_and_instances refine (HE2.out _ _ (by assumption) hRy).mono ?_); rintro e wy ⟨rfl, hby⟩))
            all_goals
              refine NoPanic.normal ?_
              rename Sx _ _ => hH
              have HBX := Lib.hid hH.bel
              clear hH
              have c17 := HC17.out.below HBX.out
              obtain ⟨d0, d1, d2, _⟩ := c17.all
              clear r10 r11 r12 r17 r18 r19
              go_wp2_with fail
              refine (drop_mine ⟨n2, r2, t2⟩ xs2 ks2 4294967295 _ (HL13.out.ar.below HBX.out) HM2.out HRR2.out).mono ?_
              rintro e w14 ⟨rfl, hs14⟩
              have HL14 := Lib.hid ((HL13.out.below HBX.out).stp hs14)
              have c10 := (HC10.out.below HBX.out).kp hs14.kp HN10.out
              clear d0 d1 d2 c17 hs14
              obtain ⟨d0, d1, d2, _⟩ := c10.all
              clear c10
              go_wp2_with fail
              refine (drop_mine ⟨vn, vr, vt⟩ lv ks 4294967295 _ HL14.out.ar HM.out HRR.out).mono ?_
              rintro e w15 ⟨rfl, hs15⟩
              have HL15 := Lib.hid (HL14.out.stp hs15)
              clear hs15 d0 d1 d2 HL14
              go_wp2_with fail
              refine (alive b 4096 (fun _ => none) _ _ HL15.out.ar).mono ?_
              rintro e w' ⟨rfl, rfl⟩
              rw [live_zero fun _ => rfl]
              go_wp2_with fail
              go_ret
              exact ⟨rfl, HL15.out.bel⟩

set_option maxRecDepth 100000 in
theorem lifted (os : Os) (started : os.Started) (H : Type) (enc : TypeId × Value → H) :
    ReturnsInHanded {} Try.checked os 5 .any (Rows.sliceListsSpec.pre6 enc Try.prog Try.f5 Rows.sliceListsRow.domain false) (Rows.sliceListsSpec.post enc Try.prog Try.f5 false true false false) := by
  refine returnsInHanded_of_change_sized (C := Try.checked) own started (by kernel_rfl) Try.func5
    (ChangeSpec.witness6 (enc := enc) (C := Try.checked) false ⟨#[], #[.slice none 0 0, .agg #[.int .i64 0, .int .i64 0], .agg #[.int .i64 0, .int .i64 0]], []⟩ 8 (by kernel_rfl) (by kernel_rfl) (by kernel_rfl) (by kernel_rfl)) ?_
  intro W base args ds gs before hval0 hW _ hsz0 _
  have hval : ∀ (j : Nat) t v, Try.f5.params[j]? = some t → args[j]? = some v → Value.okWide Try.prog W .any base t v := hval0
  have hsz : (DataW.weightsEach Try.prog (Try.f5.params.toList ++ Rows.sliceListsSpec.plain.varTypes Try.prog) (ds ++ gs)).all (· ≤ reachBytes) = true := hsz0
  have hW' := hW
  obtain ⟨p, q, hA0, hV, rfl, _, _⟩ := hW
  have hA : DataW.TrodAll enc Try.prog W 0 (fun _ => true) true Try.f5.params.toList args.toList ds p := hA0
  rw [Try.params5] at hA hval hsz
  obtain ⟨v0, vs0, d0, ds0, p0, q0, hargs, rfl, rfl, h0, r0⟩ := trodAll_cons hA
  obtain ⟨v1, vs1, d1, ds1, p1, q1, rfl, rfl, rfl, h1, r1⟩ := trodAll_cons r0
  obtain ⟨v2, vs2, d2, ds2, p2, q2, rfl, rfl, rfl, h2, r2⟩ := trodAll_cons r1
  obtain ⟨rfl, rfl, rfl⟩ := trodAll_nil r2
  obtain rfl : args = #[v0, v1, v2] := by cases args; simp_all
  obtain ⟨rfl, rfl⟩ := trodVars_none hV
  simp only [List.append_nil] at hW'
  obtain ⟨A, x, c, rfl, hx, _, hxs, hxd⟩ := open_values (hval 0 31 v0 rfl rfl) h0
  obtain ⟨s0, s1, rfl⟩ := open_pair (hval 1 63 v1 rfl rfl) h1
  obtain ⟨p0', p1', rfl⟩ := open_pair (hval 2 63 v2 rfl rfl) h2
  have hnx : x.length ≤ 4398046511104 := by
    rcases hxd with rfl | ⟨es, ss, rfl, he⟩
    · simp
    · have := sized_slice hsz (j := 0) (t := 31) (e := 38) rfl rfl Try.underlying31
      rw [vbytes] at this
      unfold reachBytes at this
      omega
  clear hA0 hval0
  refine (walk A x c s0 s1 p0' p1' W hx hnx).mono fun e W' ⟨he, hg⟩ => ?_
  subst he
  have hlt : ∀ x ∈ p0 ++ (p1 ++ p2), x.block < W.heap.size := fun x hx => by simpa using hW'.lt x (by simpa using hx)
  refine ⟨_, rfl, _, _, _, [], p0 ++ (p1 ++ p2), [], by simpa using hW', ?_, ?_, ?_, hg.frame _, fun h => by cases h⟩
  · exact trodAll_cons_mk (shut_bool Try.underlying4 _) trodAll_mk0
  · have g0 := Below.trod laidOut (by kernel_rfl) (of_decide_eq_true (by kernel_rfl)) h0 hg (fun x hx => hlt x (by simp [hx]))
    have g1 := Below.trod laidOut (by kernel_rfl) (of_decide_eq_true (by kernel_rfl)) h1 hg (fun x hx => hlt x (by simp [hx]))
    have g2 := Below.trod laidOut (by kernel_rfl) (of_decide_eq_true (by kernel_rfl)) h2 hg (fun x hx => hlt x (by simp [hx]))
    have := trodAll_cons_mk g0 (trodAll_cons_mk g1 (trodAll_cons_mk g2 trodAll_mk0))
    simp only [List.append_nil] at this
    exact this
  · rfl

theorem over : Rows.sliceListsRow.holds Try.pinned (OpenSpec.ofChange Rows.sliceListsSpec) :=
  OpenClaim.holds_of_wide 5 Try.f5 rfl rfl rfl rfl rfl rfl rfl ⟨rfl, rfl, rfl, rfl, rfl⟩ rfl rfl rfl rfl rfl (by kernel_rfl) Try.func5 (by kernel_rfl)
    (of_decide_eq_true (by kernel_rfl)) (by unfold Func.isWrapper; first | (rw [if_pos (by decide +kernel)]; kernel_rfl) | (rw [if_neg (by decide +kernel)]; exact ⟨rfl, rfl⟩))
    (fun os started H enc _ => lifted os started H enc)

theorem proved : Rows.SliceListsSaid :=
  over
#print axioms proved
end Go.Proofs.Ytjdpgehmkcdmfaa.sliceLists

/- For any two lists of values and any two numbers: two vectors of up to 699 values are joined to one that has both lists' values, or is too long, and then nothing more is held; and they compare as the document's lists do (SliceJoins returns true; the arguments read as they did). No condition. -/
import Derived.Test.YtjdpgehmkcdmfaaRows
import Derived.Test.YtjdpgehmkcdmfaaLives07
import Derived.Test.YtjdpgehmkcdmfaaCompare07
import Derived.Test.YtjdpgehmkcdmfaaPair07
import Derived.OpenShut
import Derived.ShutString
import Derived.Lib.SmallJoins
import Derived.SizedLaws
namespace Go.Proofs.Ytjdpgehmkcdmfaa.sliceJoins
open Go.ChangeShapes Go.WideShapes Go.ChangeAt Go.RowKit Go.Joins Go.Deep

theorem own : ownKnob Try.prog.godebug = none := by kernel_rfl
theorem laidOut : laidOutB Try.prog = true := by kernel_rfl
theorem len_of (n : Int) : ∃ k : Nat, k ≤ 699 ∧ wrap64 ((IntKind.u64.wrap n).tmod 700) = k := by
  have h0 : 0 ≤ IntKind.u64.wrap n := by rw [IntKind.wrap_u64]; omega
  rw [Int.tmod_eq_emod_of_nonneg h0]
  have h1 : 0 ≤ IntKind.u64.wrap n % 700 := by omega
  have h2 : IntKind.u64.wrap n % 700 < 700 := by omega
  rw [IntWalk.wrap64_in (IntKind.u64.wrap n % 700) (by omega)]
  exact ⟨(IntKind.u64.wrap n % 700).toNat, by omega, by omega⟩
theorem notFn {F : Nat → Prop} {w w' : World} {z : Nat} (hz : z < w.heap.size) (hn : ¬ F z) : ¬ Fn F w w' z := fun hf => hf.elim hn (fun hf => by omega)

/-- Two lists' rows, and the cells in which vectors are boxed: not the arena's. -/
structure Two (w : World) (F : Nat → Prop) (S1 S2 : Value) (k o : Vs) : Prop where
  r1 : Rd w S1 k.length (k.flatMap cells3)
  r2 : Rd w S2 o.length (o.flatMap cells3)
  n1 : ∀ q, S1.ownBlock = some q → q < w.heap.size ∧ ¬ F q
  n2 : ∀ q, S2.ownBlock = some q → q < w.heap.size ∧ ¬ F q
theorem Two.below {w w' : World} {F : Nat → Prop} {S1 S2 : Value} {k o : Vs} (h : Two w F S1 S2 k o) (hb : Below w.heap.size w w') : Two w' F S1 S2 k o :=
  ⟨h.r1.below hb, h.r2.below hb, fun q hq => ⟨Nat.lt_of_lt_of_le (h.n1 q hq).1 hb.size, (h.n1 q hq).2⟩, fun q hq => ⟨Nat.lt_of_lt_of_le (h.n2 q hq).1 hb.size, (h.n2 q hq).2⟩⟩
theorem Two.kp {w w' : World} {F : Nat → Prop} {S1 S2 : Value} {k o : Vs} (h : Two w F S1 S2 k o) (hk : Kp F w w') : Two w' (Fn F w w') S1 S2 k o :=
  ⟨hk.rd h.r1 (fun q hq => (h.n1 q hq).2), hk.rd h.r2 (fun q hq => (h.n2 q hq).2), fun q hq => ⟨Nat.lt_of_lt_of_le (h.n1 q hq).1 hk.size, notFn (h.n1 q hq).1 (h.n1 q hq).2⟩, fun q hq => ⟨Nat.lt_of_lt_of_le (h.n2 q hq).1 hk.size, notFn (h.n2 q hq).1 (h.n2 q hq).2⟩⟩
/-- A boxed vector that the arena has not. -/
structure Bx (w : World) (F : Nat → Prop) (z : Nat) (v : Vc) : Prop where
  c : C3 w z 30 (.int .i64 (v.n : Int)) (.int .i64 (v.root : Int)) (.int .i64 (v.tail : Int))
  n : ¬ F z
theorem Bx.below {w w' : World} {F : Nat → Prop} {z : Nat} {v : Vc} (h : Bx w F z v) (hb : Below w.heap.size w w') : Bx w' F z v := ⟨h.c.below hb, h.n⟩
theorem Bx.kp {w w' : World} {F : Nat → Prop} {z : Nat} {v : Vc} (h : Bx w F z v) (hk : Kp F w w') : Bx w' (Fn F w w') z v := ⟨h.c.kp hk h.n, notFn h.c.lt h.n⟩

abbrev pagg (a b : Int) : Value := .agg #[.int .i64 a, .int .i64 b]
set_option maxRecDepth 100000 in
set_option maxHeartbeats 2000000 in
theorem walk (A A' : Option Addr) (x y : Vs) (c c' : Nat) (s0 s1 : Int) (w : World) (hx : Lst w A x) (hy : Lst w A' y) (hnx : x.length ≤ 4398046511104) (hny : y.length ≤ 4398046511104) (hsx : ∀ q ∈ x, q.2.2.size ≤ 9223372036854775807) (hsy : ∀ q ∈ y, q.2.2.size ≤ 9223372036854775807) :
    Calls Try.prog 6 #[.slice A x.length c, .slice A' y.length c', pagg s0 s1] w fun e w' => e = .returned (.bool true) ∧ Below w.heap.size w w' := by
  have q5 := C2.new w 63 (.int .i64 s0) (.int .i64 s1)
  have hb : Below w.heap.size w (w.alloc (.cells #[.int .i64 s0, .int .i64 s1] 63)) := (Below.refl _ w).alloc (Nat.le_refl _) _
  have HB := Lib.hid hb
  have HX := Lib.hid hx
  have HY := Lib.hid hy
  have HSX := Lib.hid hsx
  have HSY := Lib.hid hsy
  obtain ⟨p0, p1, _⟩ := q5.all
  clear hx hy hb hsx hsy q5
  go_enter Try.func6, Try.ntmps6
  go_wp2_with fail
  go_quiet (fail)
  have HB0 := Lib.hid (HB.out.trans ((below_drewN _ nq).mono HB.out.size))
  generalize (w.alloc (.cells #[.int .i64 s0, .int .i64 s1] 63)).drewN nq = w0 at HB0 ⊢
  clear p0 p1 HB
  go_wp2_with fail
  refine (lives7 _).mono ?_
  rintro e w1 ⟨rfl, hb1⟩
  have HB1 := Lib.hid (HB0.out.trans (hb1.mono HB0.out.size))
  clear hb1 HB0
  go_wp2_with fail
  refine (vfits x A c w1 (HX.out.below HB1.out) hnx).mono ?_
  rintro e w2 ⟨r, rfl, hr, hb2⟩
  have HB2 := Lib.hid (HB1.out.trans (hb2.mono HB1.out.size))
  clear hb2 HB1
  cases r
  · go_wp2_with fail
    refine (lives7 _).mono ?_
    rintro e w3 ⟨rfl, hb3⟩
    have HB3 := Lib.hid (HB2.out.trans (hb3.mono HB2.out.size))
    clear hb3
    go_wp2_with fail
    go_ret
    exact ⟨rfl, HB3.out⟩
  have h60 := hr rfl
  clear hr
  go_wp2_with fail
  refine (vfits y A' c' w2 (HY.out.below HB2.out) hny).mono ?_
  rintro e w3 ⟨r, rfl, hr, hb3⟩
  have HB3 := Lib.hid (HB2.out.trans (hb3.mono HB2.out.size))
  clear hb3 HB2
  cases r
  · go_wp2_with fail
    refine (lives7 _).mono ?_
    rintro e w4 ⟨rfl, hb4⟩
    have HB4 := Lib.hid (HB3.out.trans (hb4.mono HB3.out.size))
    clear hb4
    go_wp2_with fail
    go_ret
    exact ⟨rfl, HB4.out⟩
  have h61 := hr rfl
  clear hr
  obtain ⟨nk, hk1, hk⟩ := len_of s0
  obtain ⟨no, ho1, ho⟩ := len_of s1
  go_wp2_with fail
  refine (anew 8192 w3 (by omega) (by omega)).mono ?_
  rintro e w4 ⟨rfl, ha, hb4⟩
  have HL4 := Lib.hid (show Lone w w4 w3.heap.size 8192 (fun _ => none) (fun q => q = w3.heap.size) from ⟨ha, HB3.out.trans (hb4.mono HB3.out.size), fun q e => by have := HB3.out.size; omega⟩)
  obtain ⟨b, hbb⟩ : ∃ b, b = w3.heap.size := ⟨_, rfl⟩
  have HBL := Lib.hid (show b < w4.heap.size by rw [hbb]; exact ha.blt)
  rw [← hbb] at HL4 ⊢
  have HB4 := Lib.hid (HB3.out.trans (hb4.mono HB3.out.size))
  clear hbb ha hb4 HB3
  go_wp2_with fail
  rw [hk]
  refine (vfill x nk A c w4 (HX.out.below HB4.out) (by omega) (by omega)).mono ?_
  rintro e w5 ⟨S1, rfl, hS1, hb5⟩
  have HB5 := Lib.hid (HB4.out.trans (hb5.mono HB4.out.size))
  have HL5 := Lib.hid (HL4.out.below hb5)
  obtain ⟨A1, m1, rfl, _⟩ := (Rd.of_own hS1).form
  have HS1 := Lib.hid hS1
  clear hS1 hb5 hk HL4 HB4
  go_wp2_with fail
  rw [ho]
  refine (vfill y no A' c' w5 (HY.out.below HB5.out) (by omega) (by omega)).mono ?_
  rintro e w6 ⟨S2, rfl, hS2, hb6⟩
  have HL6 := Lib.hid (HL5.out.below hb6)
  obtain ⟨A2, m2, rfl, _⟩ := (Rd.of_own hS2).form
  have HT6 := Lib.hid (show Two w6 (fun q => q = b) (.slice A1 nk m1) (.slice A2 no m2) (fillN x nk) (fillN y no) from
    ⟨by rw [fillN_length]; exact (Rd.of_own HS1.out).below hb6, by rw [fillN_length]; exact Rd.of_own hS2, fun q hq => by have h1 := HS1.out.lt q hq; have := hb6.size; have := HBL.out; omega, fun q hq => by have h1 := hS2.lt q hq; have := HS1.out.1; have h2 := HL5.out.ar.blt; omega⟩)
  have HLK := Lib.hid (And.intro (fillN_length x nk) (fillN_length y no))
  have HSK := Lib.hid (show (∀ q ∈ fillN x nk, q.2.2.size ≤ 9223372036854775807) ∧ (∀ q ∈ fillN y no, q.2.2.size ≤ 9223372036854775807) from by
    have key : ∀ (l : Vs) (n : Nat), (∀ q ∈ l, q.2.2.size ≤ 9223372036854775807) → ∀ q ∈ fillN l n, q.2.2.size ≤ 9223372036854775807 := fun l n hl q hq => by
      obtain ⟨i, _, rfl⟩ := List.mem_map.1 hq
      show (((l[i % l.length]?).getD (0, 0, ⟨#[]⟩)).2.2).size ≤ _
      cases e : l[i % l.length]? with
      | none => exact Nat.zero_le _
      | some z => exact hl z (List.mem_of_getElem? e)
    exact ⟨key _ _ HSX.out, key _ _ HSY.out⟩)
  clear hS2 hb6 ho HS1 HB5 HL5 HBL
  generalize fillN x nk = k at HT6 HLK HSK
  generalize fillN y no = o at HT6 HLK HSK
  go_wp2_with fail
  refine (vfrom k _ w6 HL6.out.ar HT6.out.r1 (fun q hq => (HT6.out.n1 q hq).2) (fun _ => Nat.zero_le _)).mono ?_
  rintro e w7 hfd
  obtain ⟨⟨n1, r1, t1⟩, ks1, M1, rfl, hM1, hs7⟩ := from_ok hfd (by rw [HLK.out.1]; omega) (by rw [live_zero fun _ => rfl]; decide)
  have HM1 := Lib.hid hM1
  have HL7 := Lib.hid (HL6.out.stp hs7)
  have HT7 := Lib.hid (HT6.out.kp hs7.kp)
  generalize Fn _ _ _ = F7 at HL7 HT7
  have hb8 : Below w7.heap.size w7 (w7.alloc (.cells #[.int .i64 (n1 : Int), .int .i64 (r1 : Int), .int .i64 (t1 : Int)] 30)) := (Below.refl _ w7).alloc (Nat.le_refl _) _
  have HX8 := Lib.hid (show Bx (w7.alloc (.cells #[.int .i64 (n1 : Int), .int .i64 (r1 : Int), .int .i64 (t1 : Int)] 30)) F7 w7.heap.size ⟨n1, r1, t1⟩ from ⟨C3.new w7 _ _ _ _, fun hf => absurd (HL7.out.ar.lt hf) (Nat.lt_irrefl _)⟩)
  have HL8 := Lib.hid (HL7.out.below hb8)
  have HT8 := Lib.hid (HT7.out.below hb8)
  clear hM1 hs7 hfd hb8 HL6 HT6 HL7 HT7
  go_wp2_with fail
  generalize w7.alloc (.cells #[.int .i64 (n1 : Int), .int .i64 (r1 : Int), .int .i64 (t1 : Int)] 30) = w8 at HX8 HL8 HT8 ⊢
  obtain ⟨z13, hz13⟩ : ∃ z, z = w7.heap.size := ⟨_, rfl⟩
  rw [← hz13] at HX8 ⊢
  clear hz13
  have HR1 := Lib.hid (fun q => HM1.out.rfb (B := 1000) (by decide) (fun _ => Nat.zero_le _) q)
  have HC1 := Lib.hid (show live (8192 + 1) M1 ≤ 33 from by have h1 := HM1.out.count; have h2 := HM1.out.lv; rw [live_zero fun _ => rfl] at h2; omega)
  refine (vfrom o _ w8 HL8.out.ar HT8.out.r2 (fun q hq => (HT8.out.n2 q hq).2) HR1.out).mono ?_
  rintro e w9 hfd
  obtain ⟨⟨n2, r2, t2⟩, ks2, M2, rfl, hM2, hs9⟩ := from_ok hfd (by rw [HLK.out.2]; omega) (by have := HC1.out; omega)
  have HM2 := Lib.hid hM2
  have HL9 := Lib.hid (HL8.out.stp hs9)
  have HT9 := Lib.hid (HT8.out.kp hs9.kp)
  have HX9 := Lib.hid (HX8.out.kp hs9.kp)
  generalize Fn _ _ _ = F9 at HL9 HT9 HX9
  have hb10 : Below w9.heap.size w9 (w9.alloc (.cells #[.int .i64 (n2 : Int), .int .i64 (r2 : Int), .int .i64 (t2 : Int)] 30)) := (Below.refl _ w9).alloc (Nat.le_refl _) _
  have HY10 := Lib.hid (show Bx (w9.alloc (.cells #[.int .i64 (n2 : Int), .int .i64 (r2 : Int), .int .i64 (t2 : Int)] 30)) F9 w9.heap.size ⟨n2, r2, t2⟩ from ⟨C3.new w9 _ _ _ _, fun hf => absurd (HL9.out.ar.lt hf) (Nat.lt_irrefl _)⟩)
  have HL10 := Lib.hid (HL9.out.below hb10)
  have HT10 := Lib.hid (HT9.out.below hb10)
  have HX10 := Lib.hid (HX9.out.below hb10)
  clear hM2 hs9 hfd hb10 HL8 HT8 HX8 HL9 HT9 HX9
  have HR2 := Lib.hid (fun q => HM2.out.rfb (B := 1000) (by decide) HR1.out q)
  have HC2 := Lib.hid (show live (8192 + 1) M2 ≤ 66 from by have h1 := HM2.out.count; have h2 := HM2.out.lv; have := HC1.out; omega)
  have HV2 := Lib.hid (And.intro (HM1.out.vec.keep (fun q hq => HM2.out.keep hq)) HM2.out.vec)
  go_wp2_with fail
  generalize w9.alloc (.cells #[.int .i64 (n2 : Int), .int .i64 (r2 : Int), .int .i64 (t2 : Int)] 30) = w10 at HX10 HY10 HL10 HT10 ⊢
  obtain ⟨z15, hz15⟩ : ∃ z, z = w9.heap.size := ⟨_, rfl⟩
  rw [← hz15] at HY10 ⊢
  clear hz15
  refine (alive b 8192 M2 F9 _ HL10.out.ar).mono ?_
  rintro e w' ⟨rfl, rfl⟩
  obtain ⟨lv, hlv⟩ : ∃ lv, lv = live (8192 + 1) M2 := ⟨_, rfl⟩
  rw [← hlv]
  have HLV := Lib.hid hlv
  obtain ⟨a0, a1, a2, _⟩ := HX10.out.c.all
  obtain ⟨b0, b1, b2, _⟩ := HY10.out.c.all
  clear hlv
  go_wp2_with fail
  have hb11 : Below w10.heap.size w10 (w10.alloc (.cells #[.int .i64 (n1 : Int), .int .i64 (r1 : Int), .int .i64 (t1 : Int), .int .i64 (n2 : Int), .int .i64 (r2 : Int), .int .i64 (t2 : Int)] 30)) := (Below.refl _ w10).alloc (Nat.le_refl _) _
  have hrow := heap_alloc_new w10 (.cells #[.int .i64 (n1 : Int), .int .i64 (r1 : Int), .int .i64 (t1 : Int), .int .i64 (n2 : Int), .int .i64 (r2 : Int), .int .i64 (t2 : Int)] 30)
  have HG := Lib.hid (show ∀ q, (w10.alloc (.cells #[.int .i64 (n1 : Int), .int .i64 (r1 : Int), .int .i64 (t1 : Int), .int .i64 (n2 : Int), .int .i64 (r2 : Int), .int .i64 (t2 : Int)] 30)).cell? ⟨w10.heap.size, q, none⟩ = (#[Value.int .i64 (n1 : Int), .int .i64 (r1 : Int), .int .i64 (t1 : Int), .int .i64 (n2 : Int), .int .i64 (r2 : Int), .int .i64 (t2 : Int)] : Array Value)[q]? from fun q => cell_of_row _ _ q _ _ (0, 0) hrow)
  have HL11 := Lib.hid (HL10.out.below hb11)
  have HT11 := Lib.hid (HT10.out.below hb11)
  have HX11 := Lib.hid (HX10.out.below hb11)
  have HY11 := Lib.hid (HY10.out.below hb11)
  generalize w10.alloc (.cells #[.int .i64 (n1 : Int), .int .i64 (r1 : Int), .int .i64 (t1 : Int), .int .i64 (n2 : Int), .int .i64 (r2 : Int), .int .i64 (t2 : Int)] 30) = w11 at HG HL11 HT11 HX11 HY11 ⊢
  clear hb11 hrow HL10 HT10 HX10 HY10 a0 a1 a2 b0 b1 b2
  refine (vjoin w10.heap.size ⟨n1, r1, t1⟩ ⟨n2, r2, t2⟩ k o w11 HL11.out.ar HR2.out HV2.out.1 HV2.out.2 ⟨⟨HG.out 0, HG.out 1, HG.out 2⟩, HG.out 3, HG.out 4, HG.out 5⟩).mono ?_
  rintro e w12 hfd
  have hkl := HLK.out.1
  have hol := HLK.out.2
  by_cases hbig : (1024 : Int) < (nk : Int) + (no : Int)
  · obtain ⟨er, rfl, hs, he⟩ : ∃ er : Int, e = .returned (.tuple #[vagg ⟨0, 0, 0⟩, .int .i64 er]) ∧ Stp w11 w12 b 8192 M2 F9 ∧ er = 12 := by
      rcases hfd with ⟨v, ks, M', h1, h2, h3⟩ | ⟨er, h1, h2, h3⟩
      · have := h2.le; rw [List.length_append] at this; omega
      · refine ⟨er, h1, h2, ?_⟩
        rcases h3 with h3 | ⟨h3, h4⟩
        · exact h3.1
        · have := HC2.out; omega
    subst he
    have HL12 := Lib.hid (HL11.out.stp hs)
    clear hs hfd hkl hol
    go_wp2_with fail
    refine (alive b 8192 M2 _ _ (HL12.out.alloc _).ar).mono ?_
    rintro e w' ⟨rfl, rfl⟩
    rw [← HLV.out]
    go_wp2_with fail
    go_ret
    exact ⟨rfl, (HL12.out.alloc _).bel⟩
  · obtain ⟨ko, hko⟩ : ∃ ko, ko = k ++ o := ⟨_, rfl⟩
    rw [← hko] at hfd
    have hkol : ko.length ≤ 1024 := by rw [hko, List.length_append]; omega
    have HKO := Lib.hid hko
    clear hko
    obtain ⟨⟨n3, r3, t3⟩, ks3, M3, rfl, hM3, hs12⟩ := from_ok hfd hkol (by have := HC2.out; omega)
    have HM3 := Lib.hid hM3
    have HL12 := Lib.hid (HL11.out.stp hs12)
    have HT12 := Lib.hid (HT11.out.kp hs12.kp)
    have HX12 := Lib.hid (HX11.out.kp hs12.kp)
    have HY12 := Lib.hid (HY11.out.kp hs12.kp)
    have HV3 := Lib.hid (And.intro (HV2.out.1.keep (fun q hq => hM3.keep hq)) (HV2.out.2.keep (fun q hq => hM3.keep hq)))
    have HR3 := Lib.hid (fun q => hM3.rfb (B := 1000) (by decide) HR2.out q)
    generalize Fn _ _ _ = F12 at HL12 HT12 HX12 HY12
    have hb13 : Below w12.heap.size w12 (w12.alloc (.cells #[.int .i64 (n3 : Int), .int .i64 (r3 : Int), .int .i64 (t3 : Int)] 30)) := (Below.refl _ w12).alloc (Nat.le_refl _) _
    have HZ13 := Lib.hid (show Bx (w12.alloc (.cells #[.int .i64 (n3 : Int), .int .i64 (r3 : Int), .int .i64 (t3 : Int)] 30)) F12 w12.heap.size ⟨n3, r3, t3⟩ from ⟨C3.new w12 _ _ _ _, fun hf => absurd (HL12.out.ar.lt hf) (Nat.lt_irrefl _)⟩)
    have HL13 := Lib.hid (HL12.out.below hb13)
    have HT13 := Lib.hid (HT12.out.below hb13)
    have HX13 := Lib.hid (HX12.out.below hb13)
    have HY13 := Lib.hid (HY12.out.below hb13)
    clear hM3 hs12 hfd hb13 HL11 HT11 HX11 HY11 HL12 HT12 HX12 HY12 HG HV2
    go_wp2_with fail
    generalize w12.alloc (.cells #[.int .i64 (n3 : Int), .int .i64 (r3 : Int), .int .i64 (t3 : Int)] 30) = w13 at HZ13 HL13 HT13 HX13 HY13 ⊢
    obtain ⟨z18, hz18⟩ : ∃ z, z = w12.heap.size := ⟨_, rfl⟩
    rw [← hz18] at HZ13 ⊢
    clear hz18
    refine (vall ⟨n3, r3, t3⟩ ko w13 HL13.out.ar HM3.out.vec).mono ?_
    rintro e w14 ⟨S3, rfl, hS3, hb14⟩
    obtain ⟨A3, m3, rfl, _⟩ := (Rd.of_own hS3).form
    have HB14 := Lib.hid hb14
    have HS3 := Lib.hid (Rd.of_own hS3)
    clear hS3 hb14
    have hb15 : Below w14.heap.size w14 (w14.alloc (.cells #[.slice A1 nk m1, .slice A2 no m2] 31)) := (Below.refl _ w14).alloc (Nat.le_refl _) _
    have hrow := heap_alloc_new w14 (.cells #[.slice A1 nk m1, .slice A2 no m2] 31)
    have HB15 := Lib.hid (HB14.out.trans (hb15.mono HB14.out.size))
    have hcc := (vconcat w14.heap.size A1 A2 m1 m2 k o (w14.alloc (.cells #[.slice A1 nk m1, .slice A2 no m2] 31)) (by rw [hkl]; exact cell_of_row _ _ 0 _ _ (0, 0) hrow) (by rw [hol]; exact cell_of_row _ _ 1 _ _ (0, 0) hrow) (by have := (HT13.out.r1.below HB15.out); rw [hkl] at this ⊢; exact this) (by have := (HT13.out.r2.below HB15.out); rw [hol] at this ⊢; exact this) (by omega) (by omega))
    rw [← HKO.out] at hcc
    have HCC := Lib.hid hcc
    have HS15 := Lib.hid (HS3.out.below hb15)
    clear hb15 hrow HS3 HB14 hcc
    go_wp2_with fail
    refine HCC.out.mono ?_
    rintro e w16 ⟨S4, rfl, hS4, hb16⟩
    obtain ⟨A4, m4, rfl, _⟩ := (Rd.of_own hS4).form
    have HB16 := Lib.hid (HB15.out.trans (hb16.mono HB15.out.size))
    have HS4 := Lib.hid (Rd.of_own hS4)
    have HS16 := Lib.hid (HS15.out.below hb16)
    clear hS4 hb16 HCC HB15 HS15
    have hll : ko.length ≤ 1000000 := by omega
    go_wp2_with fail
    refine (vequal ko _ _ w16 HS16.out HS4.out hll).mono ?_
    rintro e w17 ⟨rfl, hb17⟩
    have HB17 := Lib.hid (HB16.out.trans (hb17.mono HB16.out.size))
    obtain ⟨a0, a1, a2, _⟩ := (HX13.out.below HB17.out).c.all
    obtain ⟨b0, b1, b2, _⟩ := (HY13.out.below HB17.out).c.all
    clear hb17 HB16 HS4 HS16 hll
    go_wp2_with fail
    refine (vcompare ⟨n1, r1, t1⟩ ⟨n2, r2, t2⟩ k o w17 (HL13.out.ar.below HB17.out) HV3.out.1 HV3.out.2).mono ?_
    rintro e w18 ⟨rfl, hb18⟩
    have HB18 := Lib.hid (HB17.out.trans (hb18.mono HB17.out.size))
    clear hb18 HB17 a0 a1 a2 b0 b1 b2
    obtain ⟨q, hq⟩ : ∃ q, q = lvcmp k o := ⟨_, rfl⟩
    rw [← hq]
    have HQ := Lib.hid hq
    clear hq
    go_wp2_with fail
    have hof1 := vof A1 k m1 w18 (rd_lst (by have := HT13.out.r1.below HB18.out; rw [hkl] at this ⊢; exact this)) (by omega)
    rw [hkl] at hof1
    refine hof1.mono ?_
    rintro e w19 ⟨A5, m5, rfl, hl5, hb19⟩
    have HB19 := Lib.hid (HB18.out.trans (hb19.mono HB18.out.size))
    have H5 := Lib.hid hl5
    clear hof1 hl5 hb19 HB18
    go_wp2_with fail
    have hof2 := vof A2 o m2 w19 (rd_lst (by have := HT13.out.r2.below HB19.out; rw [hol] at this ⊢; exact this)) (by omega)
    rw [hol] at hof2
    refine hof2.mono ?_
    rintro e w20 ⟨A6, m6, rfl, hl6, hb20⟩
    have HB20 := Lib.hid (HB19.out.trans (hb20.mono HB19.out.size))
    have H6 := Lib.hid hl6
    have H52 := Lib.hid (H5.out.below hb20)
    clear hof2 hl6 hb20 HB19 H5
    go_wp2_with fail
    have hrl := ref_lists A5 A6 k o m5 m6 w20 H52.out H6.out (by omega) HSK.out.1 HSK.out.2
    rw [hkl, hol, ← HQ.out] at hrl
    refine hrl.mono ?_
    rintro e w21 ⟨rfl, g21⟩
    have HB21 := Lib.hid (HB20.out.trans (g21.below.mono HB20.out.size))
    obtain ⟨a0, a1, a2, _⟩ := (HX13.out.below HB21.out).c.all
    clear g21 HB20 H52 H6 hrl
    go_wp2_with fail
    refine (vcompare ⟨n1, r1, t1⟩ ⟨n1, r1, t1⟩ k k w21 (HL13.out.ar.below HB21.out) HV3.out.1 HV3.out.1).mono ?_
    rintro e w22 ⟨rfl, hb22⟩
    rw [lvcmp_self]
    have HB22 := Lib.hid (HB21.out.trans (hb22.mono HB21.out.size))
    clear hb22 HB21 a0 a1 a2
    obtain ⟨d0, d1, d2, _⟩ := (HZ13.out.below HB22.out).c.all
    go_wp2_with fail
    refine (drop_mine ⟨n3, r3, t3⟩ ko ks3 4294967295 w22 (HL13.out.ar.below HB22.out) HM3.out HR3.out).mono ?_
    rintro e w23 ⟨rfl, hs23⟩
    have HL23 := Lib.hid ((HL13.out.below HB22.out).stp hs23)
    clear hs23 d0 d1 d2
    go_wp2_with fail
    refine (alive b 8192 M2 _ _ HL23.out.ar).mono ?_
    rintro e w' ⟨rfl, rfl⟩
    rw [← HLV.out]
    go_wp2_with fail
    go_ret
    exact ⟨rfl, HL23.out.bel⟩

set_option maxRecDepth 100000 in
theorem lifted (os : Os) (started : os.Started) (H : Type) (enc : TypeId × Value → H) :
    ReturnsInHanded {} Try.checked os 6 .any (Rows.sliceJoinsSpec.pre6 enc Try.prog Try.f6 Rows.sliceJoinsRow.domain false) (Rows.sliceJoinsSpec.post enc Try.prog Try.f6 false true false false) := by
  refine returnsInHanded_of_change_sized (C := Try.checked) own started (by kernel_rfl) Try.func6
    (ChangeSpec.witness6 (enc := enc) (C := Try.checked) false ⟨#[], #[.slice none 0 0, .slice none 0 0, .agg #[.int .i64 0, .int .i64 0]], []⟩ 8 (by kernel_rfl) (by kernel_rfl) (by kernel_rfl) (by kernel_rfl)) ?_
  intro W base args ds gs before hval0 hW _ hsz0 _
  have hval : ∀ (j : Nat) t v, Try.f6.params[j]? = some t → args[j]? = some v → Value.okWide Try.prog W .any base t v := hval0
  have hsz : (DataW.weightsEach Try.prog (Try.f6.params.toList ++ Rows.sliceJoinsSpec.plain.varTypes Try.prog) (ds ++ gs)).all (· ≤ reachBytes) = true := hsz0
  have hW' := hW
  obtain ⟨p, q, hA0, hV, rfl, _, _⟩ := hW
  have hA : DataW.TrodAll enc Try.prog W 0 (fun _ => true) true Try.f6.params.toList args.toList ds p := hA0
  rw [Try.params6] at hA hval hsz
  obtain ⟨v0, vs0, d0, ds0, p0, q0, hargs, rfl, rfl, h0, r0⟩ := trodAll_cons hA
  obtain ⟨v1, vs1, d1, ds1, p1, q1, rfl, rfl, rfl, h1, r1⟩ := trodAll_cons r0
  obtain ⟨v2, vs2, d2, ds2, p2, q2, rfl, rfl, rfl, h2, r2⟩ := trodAll_cons r1
  obtain ⟨rfl, rfl, rfl⟩ := trodAll_nil r2
  obtain rfl : args = #[v0, v1, v2] := by cases args; simp_all
  obtain ⟨rfl, rfl⟩ := trodVars_none hV
  simp only [List.append_nil] at hW'
  obtain ⟨A, x, c, rfl, hx, _, hxs, hxd⟩ := open_values (hval 0 31 v0 rfl rfl) h0
  obtain ⟨A', y, c', rfl, hy, _, hys, hyd⟩ := open_values (hval 1 31 v1 rfl rfl) h1
  obtain ⟨s0, s1, rfl⟩ := open_pair (hval 2 63 v2 rfl rfl) h2
  have hnx : x.length ≤ 4398046511104 := by
    rcases hxd with rfl | ⟨es, ss, rfl, he⟩
    · simp
    · have := sized_slice hsz (j := 0) (t := 31) (e := 38) rfl rfl Try.underlying31
      rw [vbytes] at this
      unfold reachBytes at this
      omega
  have hny : y.length ≤ 4398046511104 := by
    rcases hyd with rfl | ⟨es, ss, rfl, he⟩
    · simp
    · have := sized_slice hsz (j := 1) (t := 31) (e := 38) rfl rfl Try.underlying31
      rw [vbytes] at this
      unfold reachBytes at this
      omega
  clear hA0 hval0
  refine (walk A A' x y c c' s0 s1 W hx hy hnx hny hxs hys).mono fun e W' ⟨he, hg⟩ => ?_
  subst he
  have hlt : ∀ x ∈ p0 ++ (p1 ++ p2), x.block < W.heap.size := fun x hx => by simpa using hW'.lt x (by simpa using hx)
  refine ⟨_, rfl, _, _, _, [], p0 ++ (p1 ++ p2), [], by simpa using hW', ?_, ?_, ?_, hg.frame _, fun h => by cases h⟩
  · exact trodAll_cons_mk (shut_bool Try.underlying4 _) trodAll_mk0
  · have g0 := Below.trod laidOut (by kernel_rfl) (of_decide_eq_true (by kernel_rfl)) h0 hg (fun x hx => hlt x (by simp [hx]))
    have g1 := Below.trod laidOut (by kernel_rfl) (of_decide_eq_true (by kernel_rfl)) h1 hg (fun x hx => hlt x (by simp [hx]))
    have g2 := Below.trod laidOut (by kernel_rfl) (of_decide_eq_true (by kernel_rfl)) h2 hg (fun x hx => hlt x (by simp [hx]))
    have := trodAll_cons_mk g0 (trodAll_cons_mk g1 (trodAll_cons_mk g2 trodAll_mk0))
    simp only [List.append_nil] at this
    exact this
  · rfl

theorem over : Rows.sliceJoinsRow.holds Try.pinned (OpenSpec.ofChange Rows.sliceJoinsSpec) :=
  OpenClaim.holds_of_wide 6 Try.f6 rfl rfl rfl rfl rfl rfl rfl ⟨rfl, rfl, rfl, rfl, rfl⟩ rfl rfl rfl rfl rfl (by kernel_rfl) Try.func6 (by kernel_rfl)
    (of_decide_eq_true (by kernel_rfl)) (by unfold Func.isWrapper; first | (rw [if_pos (by decide +kernel)]; kernel_rfl) | (rw [if_neg (by decide +kernel)]; exact ⟨rfl, rfl⟩))
    (fun os started H enc _ => lifted os started H enc)

theorem proved : Rows.SliceJoinsSaid :=
  over
#print axioms proved
end Go.Proofs.Ytjdpgehmkcdmfaa.sliceJoins

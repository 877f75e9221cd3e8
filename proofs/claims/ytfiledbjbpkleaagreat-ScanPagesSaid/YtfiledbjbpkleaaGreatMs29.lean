/- Several texts in one. -/
import Derived.Test.YtfiledbjbpkleaaGreatMs28
import Derived.BigQuiet
import Derived.Test.YtfiledbjbpkleaaGreatMs27
import Derived.Test.YtfiledbjbpkleaaGreatMs23
import Derived.IntWalk
namespace Go.Proofs.YtfiledbjbpkleaaGreat
set_option maxRecDepth 100000
set_option linter.unusedSimpArgs false
set_option linter.unusedVariables false
open Go.RowKit
theorem Md.pick {w W : World} {b bh seed j root : Nat} {hs : Ky → Nat} {M : Cells} {F : Nat → Prop} {L L0 : List Pr} {v : Value} (h : Md w b bh seed hs j root M F L L0 v W) : M 0 = none := h.bk.zero
theorem mk3 (hs : Ky → Nat) : (mkL hs 0 [(2, 1, ⟨#[]⟩), (2, 2, ⟨#[]⟩), (2, 3, ⟨#[]⟩)] []).length = 3 := by
  have s1 := putL_spec (hs := hs) (p := ((2, 1, ⟨#[]⟩), (2, 0, ⟨#[]⟩))) (l := []) List.Pairwise.nil
  have s2 := putL_spec (hs := hs) (p := ((2, 2, ⟨#[]⟩), (2, 1, ⟨#[]⟩))) s1.1
  have n1 := putL_length (hs := hs) (p := ((2, 1, ⟨#[]⟩), (2, 0, ⟨#[]⟩))) (l := []) List.Pairwise.nil
  have n2 := putL_length (hs := hs) (p := ((2, 2, ⟨#[]⟩), (2, 1, ⟨#[]⟩))) s1.1
  have n3 := putL_length (hs := hs) (p := ((2, 3, ⟨#[]⟩), (2, 2, ⟨#[]⟩))) s2.1
  rw [if_neg (by decide)] at n1
  rw [if_neg (by
    rw [hasB_iff]
    rintro ⟨q, hq, he⟩
    rcases (s1.2 q).1 hq with rfl | ⟨h, _⟩
    · simp at he
    · cases h)] at n2
  rw [if_neg (by
    rw [hasB_iff]
    rintro ⟨q, hq, he⟩
    rcases (s2.2 q).1 hq with rfl | ⟨h, _⟩
    · simp at he
    · rcases (s1.2 q).1 h with rfl | ⟨h, _⟩
      · simp at he
      · cases h)] at n3
  show (putL hs _ (putL hs _ (putL hs _ []))).length = 3
  exact n3.trans (by rw [show (putL hs ((2, 2, ⟨#[]⟩), (2, 1, ⟨#[]⟩)) (putL hs ((2, 1, ⟨#[]⟩), (2, 0, ⟨#[]⟩)) [])).length = 2 from n2.trans (by rw [n1]; rfl)])
theorem lst3 (w : World) (a b c : Ky) (t : TypeId) : Lst (w.alloc (.cells #[.int .u8 a.1, .int .i64 a.2.1, .string a.2.2, .int .u8 b.1, .int .i64 b.2.1, .string b.2.2, .int .u8 c.1, .int .i64 c.2.1, .string c.2.2] t)) (some ⟨w.heap.size, 0, none⟩) [a, b, c] := by
  refine .inr ⟨w.heap.size, 0, rfl, by simp, fun i x hx => ?_⟩
  match i, hx with
  | 0, hx => simp at hx; subst hx; simp [go_sem]
  | 1, hx => simp at hx; subst hx; simp [go_sem]
  | 2, hx => simp at hx; subst hx; simp [go_sem]
set_option maxHeartbeats 4000000 in
theorem llives9 (w : World) : Calls Tryz.prog 23 #[] w fun e w' => e = .returned (.bool true) ∧ Below w.heap.size w w' := by
  obtain ⟨hs, hhs⟩ : ∃ hs : Ky → Nat, ∀ q, OkK q → hs q = hashN 3 q.1 q.2.1 q.2.2 := ⟨fun q => hashN 3 q.1 q.2.1 q.2.2, fun _ _ => rfl⟩
  have HHS := Lib.hid hhs
  clear hhs
  go_enter Tryz.func23, Tryz.ntmps23
  go_wp2_with fail
  refine (lnumber 1 w).mono ?_
  rintro e w1 ⟨rfl, hb1⟩
  have H1 := Lib.hid hb1
  clear hb1
  go_wp2_with fail
  refine (lnumber 2 w1).mono ?_
  rintro e w2 ⟨rfl, hb2⟩
  have H2 := Lib.hid (H1.out.trans (hb2.mono H1.out.size))
  clear hb2 H1
  go_wp2_with fail
  refine (lnumber 3 w2).mono ?_
  rintro e w3 ⟨rfl, hb3⟩
  have H3 := Lib.hid (H2.out.trans (hb3.mono H2.out.size))
  clear hb3 H2
  go_wp2_with fail
  have HMD := Lib.hid (lmade9 3 hs HHS.out (some ⟨w3.heap.size, 0, none⟩) [(2, 1, ⟨#[]⟩), (2, 2, ⟨#[]⟩), (2, 3, ⟨#[]⟩)] 3 _ (lst3 w3 (2, 1, ⟨#[]⟩) (2, 2, ⟨#[]⟩) (2, 3, ⟨#[]⟩) 36) (fun k hk => by
    simp at hk
    rcases hk with rfl | rfl | rfl <;> decide) (by decide))
  refine HMD.out.mono ?_
  rintro e w4 ⟨b, bh, root, M, F, L, v, rfl, ⟨j, hj, md⟩, hL⟩
  rw [show [((2, 1, ⟨#[]⟩) : Ky), (2, 2, ⟨#[]⟩), (2, 3, ⟨#[]⟩)].all okB = true by decide +kernel] at hL ⊢
  have hlen : L.length = 3 := by rw [hL rfl]; exact mk3 hs
  have H4 := Lib.hid (And.intro hj (And.intro md hlen))
  have HB4 := Lib.hid ((H3.out.alloc H3.out.size (.cells #[.int .u8 2, .int .i64 1, .string ⟨#[]⟩, .int .u8 2, .int .i64 2, .string ⟨#[]⟩, .int .u8 2, .int .i64 3, .string ⟨#[]⟩] 36)).trans (md.bel.mono (by have := H3.out.size; simp; omega)))
  clear hj md hL hlen HMD H3
  go_upto_region 2 with fail
  have HB5 := Lib.hid (show Below w.heap.size w ((w4.alloc (.cells #[ap b, .pointer (some ⟨bh, 0, none⟩)] 26)).alloc (.cells #[.int .i64 (L.length : Int), .int .i64 (root : Int)] 30)) from (HB4.out.alloc HB4.out.size _).alloc (by have := HB4.out.size; simp; omega) _)
  have q1 := (C2.new w4 26 (ap b) (.pointer (some ⟨bh, 0, none⟩))).alloc (.cells #[.int .i64 (L.length : Int), .int .i64 (root : Int)] 30)
  have q2 : C2 ((w4.alloc (.cells #[ap b, .pointer (some ⟨bh, 0, none⟩)] 26)).alloc (.cells #[.int .i64 (L.length : Int), .int .i64 (root : Int)] 30)) (w4.heap.size + 1) 30 (.int .i64 (L.length : Int)) (.int .i64 (root : Int)) := by
    have h := C2.new (w4.alloc (.cells #[ap b, .pointer (some ⟨bh, 0, none⟩)] 26)) 30 (.int .i64 (L.length : Int)) (.int .i64 (root : Int))
    simpa using h
  have MD5 := Lib.hid (H4.out.2.1.below (((Below.refl _ w4).alloc (Nat.le_refl _) (.cells #[ap b, .pointer (some ⟨bh, 0, none⟩)] 26)).alloc (by simp) (.cells #[.int .i64 (L.length : Int), .int .i64 (root : Int)] 30)))
  generalize (w4.alloc (.cells #[ap b, .pointer (some ⟨bh, 0, none⟩)] 26)).alloc (.cells #[.int .i64 (L.length : Int), .int .i64 (root : Int)] 30) = w5 at HB5 q1 q2 MD5 ⊢
  obtain ⟨r0, r1, _, _⟩ := q1.all
  obtain ⟨r2, r3, _, _⟩ := q2.all
  clear q1 q2
  go_wp2_with fail
  refine (vPage_yes (b := b) (bh := bh) (N := L.length) (root := root) 1 9 w5 MD5.out.ar MD5.out.pick MD5.out.mp (by rw [H4.out.2.2]; decide) (by decide) (by decide)).mono ?_
  rintro e w6 ⟨v6, rfl, hown, hb6⟩
  have HB6 := Lib.hid (HB5.out.trans (hb6.mono HB5.out.size))
  obtain ⟨A, c, rfl, hc⟩ := (Rd.of_own hown).form
  have hn : ((L.drop (1 : Int).toNat).take 9).length = 2 := by
    rw [List.length_take, List.length_drop, H4.out.2.2]
    rfl
  rw [hn]
  clear hown hb6 hc hn
  go_wp2_with fail
  go_ret
  exact ⟨rfl, HB6.out⟩
end Go.Proofs.YtfiledbjbpkleaaGreat

namespace Go.Proofs.YtfiledbjbpkleaaGreat
set_option maxRecDepth 100000
set_option linter.unusedSimpArgs false
set_option linter.unusedVariables false
open Go.RowKit
theorem ordN_range (g h : Nat) (a b : Ky) : -1 ≤ ordN g h a b ∧ ordN g h a b ≤ 1 := by
  unfold ordN
  split
  · exact icmp_range _ _
  · exact vc_range _ _
theorem ordN_swap (g h : Nat) (a b : Ky) : ordN h g b a = - ordN g h a b := by
  unfold ordN
  rw [pt_swap g h]
  split
  · exact icmp_swap _ _
  · exact vc_swap _ _
theorem ordN_klt (hs : Ky → Nat) (a b : Ky) : ordN (hs a) (hs b) a b = -1 ↔ kltB hs a b = true := by
  unfold ordN kltB
  split
  · rw [icmp_lt, decide_eq_true_eq]
    exact Int.ofNat_lt
  · rw [decide_eq_true_eq]
theorem ordN_zero (hs : Ky → Nat) (a b : Ky) : ordN (hs a) (hs b) a b = 0 ↔ a = b := by
  constructor
  · intro h
    unfold ordN at h
    split at h
    next hp =>
      rw [icmp_zero] at h
      exact absurd (Int.ofNat_inj.1 h) (pt_ne hp)
    · exact vc_eq.1 h
  · rintro rfl
    unfold ordN
    rw [if_neg (by rw [pt_self]; omega)]
    exact vc_eq.2 rfl
theorem bytes_inj {s t : ByteArray} (h : s.toList = t.toList) : s = t := by
  rw [ByteArray.toList_eq, ByteArray.toList_eq] at h
  obtain ⟨⟨l⟩⟩ := s
  obtain ⟨⟨m⟩⟩ := t
  simp at h
  rw [h]
def wantO (hs : Ky → Nat) (a b : Ky) : Int := if kltB hs a b = true then -1 else if kltB hs b a = true then 1 else 0
theorem wantO_ord (hs : Ky → Nat) (a b : Ky) : ordN (hs a) (hs b) a b = wantO hs a b := by
  have h1 := ordN_klt hs a b
  have h2 := ordN_klt hs b a
  have h3 := ordN_swap (hs a) (hs b) a b
  have h4 := ordN_range (hs a) (hs b) a b
  unfold wantO
  split
  next e => exact h1.2 e
  next e =>
    split
    next e2 => have := h2.2 e2; omega
    next e2 =>
      have n1 : ordN (hs a) (hs b) a b ≠ -1 := fun h => e (h1.1 h)
      have n2 : ordN (hs b) (hs a) b a ≠ -1 := fun h => e2 (h2.1 h)
      omega
section
set_option maxHeartbeats 4000000 in
theorem lorder9 (seed : Nat) (a b : Ky) (w : World) (ha : 0 ≤ a.1 ∧ a.1 ≤ 255) (hb : 0 ≤ b.1 ∧ b.1 ≤ 255) :
    Calls Tryz.prog 6 #[.int .u64 (seed : Nat), xagg a, xagg b] w fun e w' => e = .returned (.bool true) ∧ Below w.heap.size w w' := by
  obtain ⟨hs, hhs⟩ : ∃ hs : Ky → Nat, ∀ q, OkK q → hs q = hashN seed q.1 q.2.1 q.2.2 := ⟨fun q => hashN seed q.1 q.2.1 q.2.2, fun _ _ => rfl⟩
  have HHS := Lib.hid hhs
  have HA := Lib.hid ha
  have HBB := Lib.hid hb
  clear hhs ha hb
  obtain ⟨ak, an, sa⟩ := a
  obtain ⟨bk, bn, bs⟩ := b
  have st0 : C3 ((w.alloc (.cells #[.int .u8 ak, .int .i64 an, .string sa] 36)).alloc (.cells #[.int .u8 bk, .int .i64 bn, .string bs] 36)) w.heap.size 36 (.int .u8 ak) (.int .i64 an) (.string sa) ∧ C3 ((w.alloc (.cells #[.int .u8 ak, .int .i64 an, .string sa] 36)).alloc (.cells #[.int .u8 bk, .int .i64 bn, .string bs] 36)) (w.heap.size + 1) 36 (.int .u8 bk) (.int .i64 bn) (.string bs) ∧ Below w.heap.size w ((w.alloc (.cells #[.int .u8 ak, .int .i64 an, .string sa] 36)).alloc (.cells #[.int .u8 bk, .int .i64 bn, .string bs] 36)) := by
    refine ⟨(C3.new w _ _ _ _).alloc _, ?_, ((Below.refl _ w).alloc (Nat.le_refl _) _).alloc (by simp) _⟩
    have h := C3.new (w.alloc (.cells #[.int .u8 ak, .int .i64 an, .string sa] 36)) 36 (.int .u8 bk) (.int .i64 bn) (.string bs)
    simpa using h
  go_enter Tryz.func6, Tryz.ntmps6
  go_upto_region 1 with fail
  generalize (w.alloc (.cells #[.int .u8 ak, .int .i64 an, .string sa] 36)).alloc (.cells #[.int .u8 bk, .int .i64 bn, .string bs] 36) = w1 at st0 ⊢
  obtain ⟨z4, hz4⟩ : ∃ z, z = w.heap.size := ⟨_, rfl⟩
  obtain ⟨z5, hz5⟩ : ∃ z, z = w.heap.size + 1 := ⟨_, rfl⟩
  rw [← hz5, ← hz4]
  have S1 := Lib.hid (show C3 w1 z4 36 (.int .u8 ak) (.int .i64 an) (.string sa) ∧ C3 w1 z5 36 (.int .u8 bk) (.int .i64 bn) (.string bs) ∧ Below w.heap.size w w1 from by rw [hz4, hz5]; exact st0)
  clear hz4 hz5 st0
  have STEP := Lib.hid (fun (Wa Wb : World) (h : C3 Wa z4 36 (.int .u8 ak) (.int .i64 an) (.string sa) ∧ C3 Wa z5 36 (.int .u8 bk) (.int .i64 bn) (.string bs) ∧ Below w.heap.size w Wa) (hb : Below Wa.heap.size Wa Wb) => (show C3 Wb z4 36 (.int .u8 ak) (.int .i64 an) (.string sa) ∧ C3 Wb z5 36 (.int .u8 bk) (.int .i64 bn) (.string bs) ∧ Below w.heap.size w Wb from ⟨h.1.below hb, h.2.1.below hb, h.2.2.trans (hb.mono h.2.2.size)⟩))
  go_wp2_with fail
  refine (llives9 w1).mono ?_
  rintro e w2 ⟨rfl, hb2⟩
  have S2 := Lib.hid (STEP.out _ _ S1.out hb2)
  clear hb2 S1
  obtain ⟨a0, a1, a2, _, _, _⟩ := S2.out.1.all
  go_wp2_with fail
  refine (lof9 (ak, an, sa) w2).mono ?_
  rintro e w3 ⟨rfl, hb3⟩
  have S3 := Lib.hid (STEP.out _ _ S2.out hb3)
  clear hb3 S2 a0 a1 a2
  go_wp2_with fail
  refine (ref_right ak an sa w3).mono ?_
  rintro e w4 ⟨rfl, g4⟩
  have S4 := Lib.hid (STEP.out _ _ S3.out g4.below)
  clear g4 S3
  cases hra : rightB ak an sa
  · go_wp2_with fail
    refine (llives9 w4).mono ?_
    rintro e w5 ⟨rfl, hb5⟩
    have S5 := Lib.hid (STEP.out _ _ S4.out hb5)
    clear hb5
    go_wp2_with fail
    go_ret
    exact ⟨rfl, S5.out.2.2⟩
  · obtain ⟨b0, b1, b2, _, _, _⟩ := S4.out.2.1.all
    go_wp2_with fail
    refine (lof9 (bk, bn, bs) w4).mono ?_
    rintro e w5 ⟨rfl, hb5⟩
    have S5 := Lib.hid (STEP.out _ _ S4.out hb5)
    clear hb5 S4 b0 b1 b2
    go_wp2_with fail
    refine (ref_right bk bn bs w5).mono ?_
    rintro e w6 ⟨rfl, g6⟩
    have S6 := Lib.hid (STEP.out _ _ S5.out g6.below)
    clear g6 S5
    cases hrb : rightB bk bn bs
    · go_wp2_with fail
      refine (llives9 w6).mono ?_
      rintro e w7 ⟨rfl, hb7⟩
      have S7 := Lib.hid (STEP.out _ _ S6.out hb7)
      clear hb7
      go_wp2_with fail
      go_ret
      exact ⟨rfl, S7.out.2.2⟩
    · have s1 := right_small hra
      have s2 := right_small hrb
      have OKA := Lib.hid (show OkK (ak, an, sa) from ⟨HA.out.1, HA.out.2, by show 17 + sa.size ≤ _; omega⟩)
      have OKB := Lib.hid (show OkK (bk, bn, bs) from ⟨HBB.out.1, HBB.out.2, by show 17 + bs.size ≤ _; omega⟩)
      clear s1 s2 hra hrb
      go_wp2_with fail
      refine (anew 1 w6 (by decide) (by decide)).mono ?_
      rintro e w7 ⟨rfl, har, hb7⟩
      have S7 := Lib.hid (STEP.out _ _ S6.out hb7)
      clear hb7 har S6
      go_wp2_with fail
      refine (hnew seed w7).mono ?_
      rintro e w8 ⟨rfl, hh, hg⟩
      have KNE := Lib.hid (show z4 ≠ w7.heap.size ∧ z5 ≠ w7.heap.size ∧ w8.heap.size ≠ w7.heap.size from ⟨Nat.ne_of_lt S7.out.1.lt, Nat.ne_of_lt S7.out.2.1.lt, Nat.ne_of_gt hh.lt⟩)
      have S8 := Lib.hid (And.intro (STEP.out _ _ S7.out hg.below) (And.intro hh (show w.heap.size ≤ w7.heap.size from S7.out.2.2.size)))
      clear hh hg S7
      go_upto_region 6 with fail
      have q9 := C2.new w8 26 (ap w6.heap.size) (.pointer (some ⟨w7.heap.size, 0, none⟩))
      have b9 := (Below.refl _ w8).alloc (Nat.le_refl _) (.cells #[ap w6.heap.size, .pointer (some ⟨w7.heap.size, 0, none⟩)] 26)
      have S9 := Lib.hid (And.intro (STEP.out _ _ S8.out.1 b9) (And.intro (S8.out.2.1.below b9) (And.intro S8.out.2.2 q9)))
      clear b9 q9 S8
      generalize w8.alloc (.cells #[ap w6.heap.size, .pointer (some ⟨w7.heap.size, 0, none⟩)] 26) = w9 at S9 ⊢
      generalize w7.heap.size = bh at S9 KNE ⊢
      generalize w6.heap.size = b at S9 ⊢
      generalize w8.heap.size = z9 at S9 KNE ⊢
      have STEQ := Lib.hid (fun (Wa Wb : World) (h : (C3 Wa z4 36 (.int .u8 ak) (.int .i64 an) (.string sa) ∧ C3 Wa z5 36 (.int .u8 bk) (.int .i64 bn) (.string bs) ∧ Below w.heap.size w Wa) ∧ Hs Wa bh seed ∧ w.heap.size ≤ bh ∧ C2 Wa z9 26 (ap b) (.pointer (some ⟨bh, 0, none⟩))) (hb : Below Wa.heap.size Wa Wb) => (show (C3 Wb z4 36 (.int .u8 ak) (.int .i64 an) (.string sa) ∧ C3 Wb z5 36 (.int .u8 bk) (.int .i64 bn) (.string bs) ∧ Below w.heap.size w Wb) ∧ Hs Wb bh seed ∧ w.heap.size ≤ bh ∧ C2 Wb z9 26 (ap b) (.pointer (some ⟨bh, 0, none⟩)) from ⟨STEP.out _ _ h.1 hb, h.2.1.below hb, h.2.2.1, h.2.2.2.below hb⟩))
      have KLO := Lib.hid S9.out.2.2.1
      obtain ⟨a0, a1, a2, _, _, _⟩ := S9.out.1.1.all
      obtain ⟨b0, b1, b2, _, _, _⟩ := S9.out.1.2.1.all
      replace a0 := Gb.cell a0 S9.out.1.1.lt
      replace a1 := Gb.cell a1 S9.out.1.1.lt
      replace a2 := Gb.cell a2 S9.out.1.1.lt
      replace b0 := Gb.cell b0 S9.out.1.2.1.lt
      replace b1 := Gb.cell b1 S9.out.1.2.1.lt
      replace b2 := Gb.cell b2 S9.out.1.2.1.lt
      refine region_below (by kernel_rfl) (by kernel_rfl) ?_
      repeat (go_big_quiet_step ((first
        | (go_at_call 29; exact Gb.calls _ (rless hs seed (ak, an, sa) (bk, bn, bs) OKA.out OKB.out (HHS.out _ OKA.out) (HHS.out _ OKB.out) _))
        | (go_at_call 27; exact Gb.calls _ (lof9 (_, _, _) _)))))
      refine wpQuiet_nil ?_
      rintro _ ⟨g9, rfl⟩
      have S10 := Lib.hid (STEQ.out _ _ S9.out g9.below)
      generalize g9.at' = w10 at S10 ⊢
      clear a0 a1 a2 b0 b1 b2 S9 g9
      cases hk1 : kltB hs (ak, an, sa) (bk, bn, bs)
      · go_upto_region 8 with fail
        obtain ⟨a0, a1, a2, _, _, _⟩ := S10.out.1.1.all
        obtain ⟨b0, b1, b2, _, _, _⟩ := S10.out.1.2.1.all
        replace a0 := Gb.cell a0 S10.out.1.1.lt
        replace a1 := Gb.cell a1 S10.out.1.1.lt
        replace a2 := Gb.cell a2 S10.out.1.1.lt
        replace b0 := Gb.cell b0 S10.out.1.2.1.lt
        replace b1 := Gb.cell b1 S10.out.1.2.1.lt
        replace b2 := Gb.cell b2 S10.out.1.2.1.lt
        refine region_below (by kernel_rfl) (by kernel_rfl) ?_
        repeat (go_big_quiet_step ((first
          | (go_at_call 29; exact Gb.calls _ (rless hs seed (bk, bn, bs) (ak, an, sa) OKB.out OKA.out (HHS.out _ OKB.out) (HHS.out _ OKA.out) _))
          | (go_at_call 27; exact Gb.calls _ (lof9 (_, _, _) _)))))
        refine wpQuiet_nil ?_
        rintro _ ⟨g9, rfl⟩
        have S11 := Lib.hid (STEQ.out _ _ S10.out g9.below)
        generalize g9.at' = w11 at S11 ⊢
        clear a0 a1 a2 b0 b1 b2 S10 g9
        cases hk2 : kltB hs (bk, bn, bs) (ak, an, sa)
        · have HW := Lib.hid (And.intro (show ordN (hs (ak, an, sa)) (hs (bk, bn, bs)) (ak, an, sa) (bk, bn, bs) = 0 from by rw [wantO_ord]; unfold wantO; rw [hk1, hk2]; rfl) (show ordN (hs (bk, bn, bs)) (hs (ak, an, sa)) (bk, bn, bs) (ak, an, sa) = 0 from by rw [wantO_ord]; unfold wantO; rw [hk1, hk2]; rfl))
          have HE := Lib.hid ((ordN_zero hs (ak, an, sa) (bk, bn, bs)).1 HW.out.1)
          clear hk1 hk2
          obtain ⟨a0, a1, a2, _, _, _⟩ := S11.out.1.1.all
          obtain ⟨b0, b1, b2, _, _, _⟩ := S11.out.1.2.1.all
          obtain ⟨c0, c1, _, _⟩ := S11.out.2.2.2.all
          go_wp2_with fail
          refine (vscompare (b := b) (bh := bh) (ak, an, sa) (bk, bn, bs) _ S11.out.2.1 HHS.out OKA.out OKB.out).mono ?_
          rintro e wx ⟨rfl, hkx, hhx⟩
          rw [HW.out.1]
          have SX := Lib.hid (And.intro (S11.out.1.1.kp hkx KNE.out.1) (And.intro (S11.out.1.2.1.kp hkx KNE.out.2.1) (And.intro (S11.out.2.2.2.kp hkx KNE.out.2.2) (And.intro hhx (below_kp S11.out.1.2.2 hkx (fun q e => by rw [e]; exact S11.out.2.2.1))))))
          clear hkx hhx a0 a1 a2 b0 b1 b2 c0 c1 S11
          obtain ⟨a0, a1, a2, _, _, _⟩ := SX.out.1.all
          obtain ⟨b0, b1, b2, _, _, _⟩ := SX.out.2.1.all
          obtain ⟨c0, c1, _, _⟩ := SX.out.2.2.1.all
          go_wp2_with fail
          refine (vscompare (b := b) (bh := bh) (bk, bn, bs) (ak, an, sa) _ SX.out.2.2.2.1 HHS.out OKB.out OKA.out).mono ?_
          rintro e wy ⟨rfl, hky, hhy⟩
          rw [HW.out.2]
          have SY := Lib.hid (And.intro (SX.out.1.kp hky KNE.out.1) (And.intro (SX.out.2.1.kp hky KNE.out.2.1) (And.intro (SX.out.2.2.1.kp hky KNE.out.2.2) (And.intro hhy (below_kp SX.out.2.2.2.2 hky (fun q e => by rw [e]; exact KLO.out))))))
          clear hky hhy a0 a1 a2 b0 b1 b2 c0 c1 SX
          obtain ⟨rfl, rfl, rfl⟩ : ak = bk ∧ an = bn ∧ sa = bs := by simpa using HE.out
          obtain ⟨a0, a1, a2, _, _, _⟩ := SY.out.1.all
          obtain ⟨b0, b1, b2, _, _, _⟩ := SY.out.2.1.all
          go_wp2_with fail
          go_ret
          exact ⟨rfl, SY.out.2.2.2.2⟩
        · have HW := Lib.hid (And.intro (show ordN (hs (ak, an, sa)) (hs (bk, bn, bs)) (ak, an, sa) (bk, bn, bs) = 1 from by rw [wantO_ord]; unfold wantO; rw [hk1, hk2]; rfl) (show ordN (hs (bk, bn, bs)) (hs (ak, an, sa)) (bk, bn, bs) (ak, an, sa) = -1 from (ordN_klt _ _ _).2 hk2))
          have HE := Lib.hid (show ¬ (ak, an, sa) = (bk, bn, bs) from fun e => by have := (ordN_zero hs (ak, an, sa) (bk, bn, bs)).2 e; rw [HW.out.1] at this; cases this)
          clear hk1 hk2
          obtain ⟨a0, a1, a2, _, _, _⟩ := S11.out.1.1.all
          obtain ⟨b0, b1, b2, _, _, _⟩ := S11.out.1.2.1.all
          obtain ⟨c0, c1, _, _⟩ := S11.out.2.2.2.all
          go_wp2_with fail
          refine (vscompare (b := b) (bh := bh) (ak, an, sa) (bk, bn, bs) _ S11.out.2.1 HHS.out OKA.out OKB.out).mono ?_
          rintro e wx ⟨rfl, hkx, hhx⟩
          rw [HW.out.1]
          have SX := Lib.hid (And.intro (S11.out.1.1.kp hkx KNE.out.1) (And.intro (S11.out.1.2.1.kp hkx KNE.out.2.1) (And.intro (S11.out.2.2.2.kp hkx KNE.out.2.2) (And.intro hhx (below_kp S11.out.1.2.2 hkx (fun q e => by rw [e]; exact S11.out.2.2.1))))))
          clear hkx hhx a0 a1 a2 b0 b1 b2 c0 c1 S11
          obtain ⟨a0, a1, a2, _, _, _⟩ := SX.out.1.all
          obtain ⟨b0, b1, b2, _, _, _⟩ := SX.out.2.1.all
          obtain ⟨c0, c1, _, _⟩ := SX.out.2.2.1.all
          go_wp2_with fail
          refine (vscompare (b := b) (bh := bh) (bk, bn, bs) (ak, an, sa) _ SX.out.2.2.2.1 HHS.out OKB.out OKA.out).mono ?_
          rintro e wy ⟨rfl, hky, hhy⟩
          rw [HW.out.2]
          have SY := Lib.hid (And.intro (SX.out.1.kp hky KNE.out.1) (And.intro (SX.out.2.1.kp hky KNE.out.2.1) (And.intro (SX.out.2.2.1.kp hky KNE.out.2.2) (And.intro hhy (below_kp SX.out.2.2.2.2 hky (fun q e => by rw [e]; exact KLO.out))))))
          clear hky hhy a0 a1 a2 b0 b1 b2 c0 c1 SX
          obtain ⟨a0, a1, a2, _, _, _⟩ := SY.out.1.all
          obtain ⟨b0, b1, b2, _, _, _⟩ := SY.out.2.1.all
          go_wp2_with fail
          all_goals first
            | (go_ret; exact ⟨rfl, SY.out.2.2.2.2⟩)
            | (rename_i h1 h2 h3; exact absurd (by rw [h1, h2, bytes_inj h3]) HE.out)
      · have HW := Lib.hid (And.intro (show ordN (hs (ak, an, sa)) (hs (bk, bn, bs)) (ak, an, sa) (bk, bn, bs) = -1 from (ordN_klt _ _ _).2 hk1) (show ordN (hs (bk, bn, bs)) (hs (ak, an, sa)) (bk, bn, bs) (ak, an, sa) = 1 from by rw [ordN_swap, (ordN_klt _ _ _).2 hk1]; rfl))
        have HE := Lib.hid (show ¬ (ak, an, sa) = (bk, bn, bs) from fun e => by have := (ordN_zero hs (ak, an, sa) (bk, bn, bs)).2 e; rw [HW.out.1] at this; cases this)
        clear hk1
        obtain ⟨a0, a1, a2, _, _, _⟩ := S10.out.1.1.all
        obtain ⟨b0, b1, b2, _, _, _⟩ := S10.out.1.2.1.all
        obtain ⟨c0, c1, _, _⟩ := S10.out.2.2.2.all
        go_wp2_with fail
        refine (vscompare (b := b) (bh := bh) (ak, an, sa) (bk, bn, bs) _ S10.out.2.1 HHS.out OKA.out OKB.out).mono ?_
        rintro e wx ⟨rfl, hkx, hhx⟩
        rw [HW.out.1]
        have SX := Lib.hid (And.intro (S10.out.1.1.kp hkx KNE.out.1) (And.intro (S10.out.1.2.1.kp hkx KNE.out.2.1) (And.intro (S10.out.2.2.2.kp hkx KNE.out.2.2) (And.intro hhx (below_kp S10.out.1.2.2 hkx (fun q e => by rw [e]; exact S10.out.2.2.1))))))
        clear hkx hhx a0 a1 a2 b0 b1 b2 c0 c1 S10
        obtain ⟨a0, a1, a2, _, _, _⟩ := SX.out.1.all
        obtain ⟨b0, b1, b2, _, _, _⟩ := SX.out.2.1.all
        obtain ⟨c0, c1, _, _⟩ := SX.out.2.2.1.all
        go_wp2_with fail
        refine (vscompare (b := b) (bh := bh) (bk, bn, bs) (ak, an, sa) _ SX.out.2.2.2.1 HHS.out OKB.out OKA.out).mono ?_
        rintro e wy ⟨rfl, hky, hhy⟩
        rw [HW.out.2]
        have SY := Lib.hid (And.intro (SX.out.1.kp hky KNE.out.1) (And.intro (SX.out.2.1.kp hky KNE.out.2.1) (And.intro (SX.out.2.2.1.kp hky KNE.out.2.2) (And.intro hhy (below_kp SX.out.2.2.2.2 hky (fun q e => by rw [e]; exact KLO.out))))))
        clear hky hhy a0 a1 a2 b0 b1 b2 c0 c1 SX
        obtain ⟨a0, a1, a2, _, _, _⟩ := SY.out.1.all
        obtain ⟨b0, b1, b2, _, _, _⟩ := SY.out.2.1.all
        go_wp2_with fail
        all_goals first
          | (go_ret; exact ⟨rfl, SY.out.2.2.2.2⟩)
          | (rename_i h1 h2 h3; exact absurd (by rw [h1, h2, bytes_inj h3]) HE.out)
end
end Go.Proofs.YtfiledbjbpkleaaGreat

namespace Go.Proofs.YtfiledbjbpkleaaGreat
set_option maxRecDepth 100000
set_option linter.unusedSimpArgs false
set_option linter.unusedVariables false
open Go.RowKit
section
set_option maxHeartbeats 4000000 in
theorem lsame9 (l : List Pr) (v1 v2 : Value) (w : World) (h1 : Rd w v1 l.length (l.flatMap pcells)) (h2 : Rd w v2 l.length (l.flatMap pcells)) (hl : l.length ≤ 1000000) :
    Calls Tryz.prog 30 #[v1, v2] w fun e w' => e = .returned (.bool true) ∧ Below w.heap.size w w' := by
  obtain ⟨A1, c1, rfl, hc1⟩ := h1.form
  obtain ⟨A2, c2, rfl, hc2⟩ := h2.form
  have H1 := Lib.hid h1
  have H2 := Lib.hid h2
  clear h1 h2
  go_enter Tryz.func30, Tryz.ntmps30
  go_wp2_with fail
  go_loopg [14] l.length (fun c' i wr => ∃ j : Nat, j + c' = l.length ∧ i = .int .i64 j ∧ Below w.heap.size w wr)
  case atStart => exact ⟨0, by omega, rfl, Below.refl _ _⟩
  case round =>
    obtain ⟨j, hj, rfl, hb⟩ := hrel
    by_cases hlt : j < l.length
    · obtain ⟨x, hx⟩ : ∃ x, l[j]? = some x := ⟨_, List.getElem?_eq_getElem hlt⟩
      obtain ⟨g1, o1, _, e1, x0, x1, x2, x3, x4, x5⟩ := rd6 (H1.out.below hb) hx
      obtain ⟨g2, o2, _, e2, y0, y1, y2, y3, y4, y5⟩ := rd6 (H2.out.below hb) hx
      simp only [Value.slice.injEq, true_and] at e1 e2
      obtain ⟨rfl, rfl⟩ := e1
      obtain ⟨rfl, rfl⟩ := e2
      have HB := Lib.hid hb
      have HJ := Lib.hid (And.intro hj hlt)
      have z3 : (0 : Int) ≤ (j : Int) := by omega
      have z4 : (j : Int) < (l.length : Int) := by omega
      clear hb hx hj
      go_upto_region 6 with fail
      obtain ⟨⟨pk, pn, ps⟩, qk, qn, qs⟩ := x
      simp only at x0 x1 x2 x3 x4 x5 y0 y1 y2 y3 y4 y5 ⊢
      have q6 := C6.new wr 48 (.int .u8 pk) (.int .i64 pn) (.string ps) (.int .u8 qk) (.int .i64 qn) (.string qs)
      have b6 := (Below.refl _ wr).alloc (Nat.le_refl _) (.cells #[.int .u8 pk, .int .i64 pn, .string ps, .int .u8 qk, .int .i64 qn, .string qs] 48)
      have HB6 := Lib.hid (HB.out.trans (b6.mono HB.out.size))
      clear x0 x1 x2 x3 x4 x5
      generalize wr.alloc (.cells #[.int .u8 pk, .int .i64 pn, .string ps, .int .u8 qk, .int .i64 qn, .string qs] 48) = w6 at q6 b6 HB6 ⊢
      have y0 := Gb.cell ((b6.cell (World.block_lt_of_cell? wr _ y0)).trans y0) (Nat.lt_of_lt_of_le (World.block_lt_of_cell? wr _ y0) b6.size)
      have y1 := Gb.cell ((b6.cell (World.block_lt_of_cell? wr _ y1)).trans y1) (Nat.lt_of_lt_of_le (World.block_lt_of_cell? wr _ y1) b6.size)
      have y2 := Gb.cell ((b6.cell (World.block_lt_of_cell? wr _ y2)).trans y2) (Nat.lt_of_lt_of_le (World.block_lt_of_cell? wr _ y2) b6.size)
      have y3 := Gb.cell ((b6.cell (World.block_lt_of_cell? wr _ y3)).trans y3) (Nat.lt_of_lt_of_le (World.block_lt_of_cell? wr _ y3) b6.size)
      have y4 := Gb.cell ((b6.cell (World.block_lt_of_cell? wr _ y4)).trans y4) (Nat.lt_of_lt_of_le (World.block_lt_of_cell? wr _ y4) b6.size)
      have y5 := Gb.cell ((b6.cell (World.block_lt_of_cell? wr _ y5)).trans y5) (Nat.lt_of_lt_of_le (World.block_lt_of_cell? wr _ y5) b6.size)
      have x0 := Gb.cell (q6.all.1) q6.lt
      have x1 := Gb.cell (q6.all.2.1) q6.lt
      have x2 := Gb.cell (q6.all.2.2.1) q6.lt
      have x3 := Gb.cell (q6.all.2.2.2.1) q6.lt
      have x4 := Gb.cell (q6.all.2.2.2.2.1) q6.lt
      have x5 := Gb.cell (q6.all.2.2.2.2.2.1) q6.lt
      clear q6
      refine region_below (by kernel_rfl) (by kernel_rfl) ?_
      repeat (go_big_quiet_step ((first | (go_at_call 27; exact Gb.calls _ (lof9 (_, _, _) _)))))
      refine wpQuiet_nil ?_
      rintro _ ⟨g9, rfl⟩
      have HB9 := Lib.hid (HB6.out.trans (g9.below.mono HB6.out.size))
      generalize g9.at' = w9 at HB9 ⊢
      clear y0 y1 y2 y3 y4 y5 x0 x1 x2 x3 x4 x5 g9
      go_wp2_with fail
      go_roundg (l.length - (j + 1))
      case measure => have := HJ.out; omega
      case rel => exact ⟨j + 1, by have := HJ.out; omega, by go_num, HB9.out⟩
    · obtain rfl : j = l.length := by omega
      have HB := Lib.hid hb
      clear hb
      go_wp2_with fail
      go_ret
      exact ⟨rfl, HB.out⟩
end
end Go.Proofs.YtfiledbjbpkleaaGreat

namespace Go.Proofs.YtfiledbjbpkleaaGreat
set_option maxRecDepth 100000
set_option linter.unusedSimpArgs false
set_option linter.unusedVariables false
open Go.RowKit
structure Al (w : World) (b bh seed : Nat) (hs : Ky → Nat) (j root : Nat) (M : Cells) (F : Nat → Prop) (L : List Pr) (v : Value) (z7 z8 zs : Nat) (n m : Int) (W : World) : Prop where
  ar : Ar W b 16384 M F
  own : W.ownsRow w.heap.size 63 6 v L.length (L.flatMap pcells)
  lb : C2 W z7 26 (ap b) (.pointer (some ⟨bh, 0, none⟩))
  mb : C2 W z8 30 (.int .i64 (L.length : Int)) (.int .i64 (root : Int))
  nb : C2 W zs 3 (.int .i64 n) (.int .i64 m)
  bel : Below w.heap.size w W
theorem Al.below {w W W' : World} {b bh seed : Nat} {hs : Ky → Nat} {j root : Nat} {M : Cells} {F : Nat → Prop} {L : List Pr} {v : Value} {z7 z8 zs : Nat} {n m : Int} (h : Al w b bh seed hs j root M F L v z7 z8 zs n m W) (hb : Below W.heap.size W W') : Al w b bh seed hs j root M F L v z7 z8 zs n m W' :=
  ⟨h.ar.below hb, (Kp.of_below hb (fun _ => False)).own h.own (fun _ _ h => h), h.lb.below hb, h.mb.below hb, h.nb.below hb, h.bel.trans (hb.mono h.bel.size)⟩
section
set_option maxHeartbeats 4000000 in
theorem lall9 (seed : Nat) (A : Option Addr) (l : List Ky) (c : Nat) (n : Int) (w : World) (h : Lst w A l) (hf : ∀ k ∈ l, 0 ≤ k.1 ∧ k.1 ≤ 255) :
    Calls Tryz.prog 5 #[.int .u64 (seed : Nat), .slice A l.length c, .int .i64 n] w fun e w' => e = .returned (.bool true) ∧ Below w.heap.size w w' := by
  obtain ⟨hs, hhs⟩ : ∃ hs : Ky → Nat, ∀ q, OkK q → hs q = hashN seed q.1 q.2.1 q.2.2 := ⟨fun q => hashN seed q.1 q.2.1 q.2.2, fun _ _ => rfl⟩
  have HHS := Lib.hid hhs
  have HL := Lib.hid (And.intro h hf)
  clear hhs h hf
  go_enter Tryz.func5, Tryz.ntmps5
  go_wp2_with fail
  refine (llives9 w).mono ?_
  rintro e w1 ⟨rfl, hb1⟩
  have H1 := Lib.hid hb1
  clear hb1
  by_cases hlen : (200 : Int) < (l.length : Int)
  · go_wp2_with fail
    refine (llives9 w1).mono ?_
    rintro e w2 ⟨rfl, hb2⟩
    have H2 := Lib.hid (H1.out.trans (hb2.mono H1.out.size))
    clear hb2
    go_wp2_with fail
    go_ret
    exact ⟨rfl, H2.out⟩
  · have HN := Lib.hid (show l.length ≤ 200 by omega)
    go_wp2_with fail
    refine (lmade9 seed hs HHS.out A l c w1 (HL.out.1.below H1.out) HL.out.2 HN.out).mono ?_
    rintro e w2 ⟨b, bh, root, M, F, L, v, rfl, ⟨j0, hj0, md⟩, hL⟩
    have MD := Lib.hid md
    have HB2 := Lib.hid (H1.out.trans (md.bel.mono H1.out.size))
    have HJ0 := Lib.hid hj0
    have H1S := Lib.hid H1.out.size
    clear md hL hj0 H1
    cases hall : l.all okB
    · clear hall hlen
      go_wp2_with fail
      go_ret
      exact ⟨rfl, (HB2.out.alloc HB2.out.size _).alloc (by have := HB2.out.size; simp; omega) _⟩
    · clear hall hlen
      go_upto_region 6 with fail
      go_wp2_with fail
      obtain ⟨m, hm⟩ : ∃ m : Int, m = wrap64 (1 + wrap64 ((IntKind.u64.wrap n).tmod 64)) := ⟨_, rfl⟩
      rw [← hm]
      clear hm
      have st0 : Al w b bh seed hs j0 root M F L v w2.heap.size (w2.heap.size + 1) (w2.heap.size + 1 + 1) n m (((w2.alloc (.cells #[ap b, .pointer (some ⟨bh, 0, none⟩)] 26)).alloc (.cells #[.int .i64 (L.length : Int), .int .i64 (root : Int)] 30)).alloc (.cells #[.int .i64 n, .int .i64 m] 3)) := by
        have hb := HB2.out.size
        have b3 : Below w2.heap.size w2 (((w2.alloc (.cells #[ap b, .pointer (some ⟨bh, 0, none⟩)] 26)).alloc (.cells #[.int .i64 (L.length : Int), .int .i64 (root : Int)] 30)).alloc (.cells #[.int .i64 n, .int .i64 m] 3)) := (((Below.refl _ w2).alloc (Nat.le_refl _) _).alloc (by simp) _).alloc (by simp; omega) _
        have q2 := (C2.new (w2.alloc (.cells #[ap b, .pointer (some ⟨bh, 0, none⟩)] 26)) 30 (.int .i64 (L.length : Int)) (.int .i64 (root : Int))).alloc (.cells #[.int .i64 n, .int .i64 m] 3)
        have q3 := C2.new ((w2.alloc (.cells #[ap b, .pointer (some ⟨bh, 0, none⟩)] 26)).alloc (.cells #[.int .i64 (L.length : Int), .int .i64 (root : Int)] 30)) 3 (.int .i64 n) (.int .i64 m)
        exact ⟨MD.out.ar.below b3, (Kp.of_below b3 (fun _ => False)).own (own_base MD.out.own (by have := MD.out.bel.size; have := H1S.out; omega)) (fun _ _ h => h), ((C2.new w2 _ _ _).alloc _).alloc _, by simpa using q2, by simpa using q3, HB2.out.trans (b3.mono hb)⟩
      generalize ((w2.alloc (.cells #[ap b, .pointer (some ⟨bh, 0, none⟩)] 26)).alloc (.cells #[.int .i64 (L.length : Int), .int .i64 (root : Int)] 30)).alloc (.cells #[.int .i64 n, .int .i64 m] 3) = w3 at st0 ⊢
      obtain ⟨z7, hz7⟩ : ∃ z, z = w2.heap.size := ⟨_, rfl⟩
      obtain ⟨z8, hz8⟩ : ∃ z, z = w2.heap.size + 1 := ⟨_, rfl⟩
      obtain ⟨zs, hzs⟩ : ∃ z, z = w2.heap.size + 1 + 1 := ⟨_, rfl⟩
      rw [← hzs, ← hz8, ← hz7]
      have ST0 := Lib.hid (show Al w b bh seed hs j0 root M F L v z7 z8 zs n m w3 from by rw [hzs, hz8, hz7]; exact st0)
      have HM := Lib.hid (And.intro MD.out.pick (And.intro MD.out.mp (show L.length ≤ 200 from Nat.le_trans MD.out.len HJ0.out)))
      clear hz7 hz8 hzs st0 MD HB2
      go_loopg [41] 2 (fun c' s41 wr => ∃ j : Nat, j + c' = 2 ∧ s41 = .int .i64 (j : Int) ∧ Al w b bh seed hs j0 root M F L v z7 z8 zs n m wr)
      case atStart => exact ⟨0, rfl, rfl, ST0.out⟩
      case round =>
        clear ST0
        obtain ⟨j, hj, rfl, al⟩ := hrel
        by_cases h1 : j < 2
        · obtain ⟨x, hx⟩ : ∃ x : Int, wr.cell? ⟨zs, j, none⟩ = some (.int .i64 x) := by
            have h0 := al.nb.c0
            have h2 := al.nb.c1
            match j, h1 with
            | 0, _ => exact ⟨n, h0⟩
            | 1, _ => exact ⟨m, h2⟩
          have AL := Lib.hid al
          have HJ := Lib.hid (And.intro hj h1)
          obtain ⟨c0, c1, _, _⟩ := al.lb.all
          obtain ⟨c2, c3, _, _⟩ := al.mb.all
          have y1 : (0 : Int) ≤ (j : Int) := by omega
          have y2 : (j : Int) < 2 := by omega
          clear al hj h1
          by_cases hn : 1 ≤ x ∧ x ≤ 64
          · have x1 : ¬ x < 1 := by omega
            have x2 : ¬ 64 < x := by omega
            go_wp2_with fail
            refine (vAll_yes (b := b) (bh := bh) (N := L.length) (root := root) x wr AL.out.ar HM.out.1 HM.out.2.1 (by have := HM.out.2.2; omega) hn).mono ?_
            rintro e w5 ⟨v5, rfl, hown, hb5⟩
            have AL5 := Lib.hid (AL.out.below hb5)
            have R5 := Lib.hid (Rd.of_own hown)
            clear hown hb5 AL c0 c1 c2 c3 hx
            go_wp2_with fail
            refine (lsame9 L v5 v w5 R5.out (Rd.of_own AL5.out.own) (by have := HM.out.2.2; omega)).mono ?_
            rintro e w6 ⟨rfl, hb6⟩
            have AL6 := Lib.hid (AL5.out.below hb6)
            clear hb6 AL5 R5
            go_wp2_with fail
            go_roundg (2 - (j + 1))
            case measure => have := HJ.out; omega
            case rel => exact ⟨j + 1, by have := HJ.out; omega, by go_num, AL6.out⟩
          · have HX := Lib.hid hn
            by_cases hx1 : x < 1
            · clear hn
              go_wp2_with fail
              refine (vAll_no b bh L.length root x wr HX.out).mono ?_
              rintro e w5 ⟨rfl, hb5⟩
              have AL5 := Lib.hid (AL.out.below hb5)
              clear hb5 AL c0 c1 c2 c3 hx
              go_wp2_with fail
              go_roundg (2 - (j + 1))
              case measure => have := HJ.out; omega
              case rel => exact ⟨j + 1, by have := HJ.out; omega, by go_num, AL5.out⟩
            · have hx2 : 64 < x := by have := HX.out; omega
              clear hn
              go_wp2_with fail
              refine (vAll_no b bh L.length root x wr HX.out).mono ?_
              rintro e w5 ⟨rfl, hb5⟩
              have AL5 := Lib.hid (AL.out.below hb5)
              clear hb5 AL c0 c1 c2 c3 hx
              go_wp2_with fail
              go_roundg (2 - (j + 1))
              case measure => have := HJ.out; omega
              case rel => exact ⟨j + 1, by have := HJ.out; omega, by go_num, AL5.out⟩
        · obtain rfl : j = 2 := by omega
          have AL := Lib.hid al
          clear al
          go_wp2_with fail
          go_ret
          exact ⟨rfl, AL.out.bel⟩
end
end Go.Proofs.YtfiledbjbpkleaaGreat

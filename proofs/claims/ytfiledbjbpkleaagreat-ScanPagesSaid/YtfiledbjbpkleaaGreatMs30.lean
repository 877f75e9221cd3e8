/- Several texts in one. -/
import Derived.Test.YtfiledbjbpkleaaGreatMs29
import Derived.IntWalk
import Derived.Deep.Cut
import Derived.Test.YtfiledbjbpkleaaGreatMs01
namespace Go.Proofs.YtfiledbjbpkleaaGreat
set_option maxRecDepth 100000
set_option linter.unusedSimpArgs false
set_option linter.unusedVariables false
open Go.RowKit
theorem flat6_drop : ∀ (l : List Pr) (f : Nat), (l.drop f).flatMap pcells = (l.flatMap pcells).drop (f * 6)
  | _, 0 => by simp
  | [], f + 1 => by simp
  | x :: l, f + 1 => by
    rw [List.drop_succ_cons, flat6_drop l f, List.flatMap_cons, show (f + 1) * 6 = (pcells x).length + f * 6 by simp [pcells, cells3]; omega, ← List.drop_drop, List.drop_left]
theorem flat6_take (l : List Pr) (m : Nat) : (l.take m).flatMap pcells <+: l.flatMap pcells := by
  refine ⟨(l.drop m).flatMap pcells, ?_⟩
  rw [← List.flatMap_append, List.take_append_drop]
theorem rd_sub6 {w : World} {A : Option Addr} {n c f t : Nat} {l xs : List Pr} (h : Rd w (.slice A n c) n (l.flatMap pcells)) (hl : l.length = n) (hft : f ≤ t) (ht : t ≤ n) (hx : xs = (l.drop f).take (t - f)) :
    (c ≠ f → Rd w (.slice (Option.map (fun x => x.add (f * 6)) A) (t - f) (c - f)) xs.length (xs.flatMap pcells)) ∧ (c = f → Rd w (.slice A (t - f) 0) xs.length (xs.flatMap pcells)) := by
  have hxl : xs.length = t - f := by rw [hx, List.length_take, List.length_drop]; omega
  rw [hxl]
  rcases h with ⟨e, h1, h2⟩ | ⟨b, o, c', e, hc, hcell⟩
  · simp only [Value.slice.injEq] at e
    obtain ⟨rfl, rfl, rfl⟩ := e
    have hl0 : l = [] := List.eq_nil_of_length_eq_zero hl
    obtain rfl : xs = [] := by rw [hx, hl0]; simp
    have e1 : t - f = 0 := by omega
    rw [e1]
    exact ⟨fun hne => by rw [show 0 - f = 0 by omega]; exact .inl ⟨rfl, rfl, rfl⟩, fun _ => .inl ⟨rfl, rfl, rfl⟩⟩
  · simp only [Value.slice.injEq] at e
    obtain ⟨rfl, _, rfl⟩ := e
    refine ⟨fun hne => .inr ⟨b, o + f * 6, c - f, ?_, by omega, fun j u hu => ?_⟩, fun he => ?_⟩
    · show Value.slice (some ((⟨b, o, none⟩ : Addr).add (f * 6))) _ _ = _
      rw [add_none]
    · have h1 : ((l.drop f).flatMap pcells)[j]? = some u := by
        obtain ⟨r, hr⟩ := flat6_take (l.drop f) (t - f)
        rw [hx] at hu
        rw [← hr, List.getElem?_append_left (List.getElem?_eq_some_iff.1 hu).1]
        exact hu
      rw [flat6_drop, List.getElem?_drop] at h1
      have := hcell _ u h1
      rwa [← Nat.add_assoc] at this
    · obtain rfl : xs = [] := List.eq_nil_of_length_eq_zero (by omega)
      exact .inr ⟨b, o, 0, by rw [show t - f = 0 by omega], by omega, fun j u hu => by simp at hu⟩
def behP (hs : Ky → Nat) (k : Ky) (n : Nat) (l : List Pr) : List Pr := (l.filter (fun p => kltB hs k p.1)).take n
theorem behP_step {hs : Ky → Nat} {k : Ky} {n j : Nat} {l : List Pr} {x : Pr} (h : l[j]? = some x) : behP hs k n (l.take (j + 1)) = if (behP hs k n (l.take j)).length < n ∧ kltB hs k x.1 = true then behP hs k n (l.take j) ++ [x] else behP hs k n (l.take j) := by
  unfold behP
  rw [List.take_add_one, h, Option.toList_some, List.filter_append]
  cases hk : kltB hs k x.1
  · simp [hk]
  · rw [List.filter_cons_of_pos (p := fun p : Pr => kltB hs k p.1) hk, List.filter_nil]
    generalize (l.take j).filter (fun p => kltB hs k p.1) = Z
    by_cases hn : Z.length < n
    · rw [List.take_of_length_le (by simp; omega), if_pos ⟨by rw [List.take_of_length_le (by omega)]; exact hn, rfl⟩, List.take_of_length_le (by omega)]
    · rw [if_neg (by rw [List.length_take]; omega), List.take_append_of_le_length (by omega)]
theorem behP_le (hs : Ky → Nat) (k : Ky) (n : Nat) (l : List Pr) : (behP hs k n l).length ≤ l.length := by
  unfold behP
  rw [List.length_take]
  have := List.length_filter_le (fun p : Pr => kltB hs k p.1) l
  omega
theorem behP_ord {hs : Ky → Nat} {seed : Nat} {k : Ky} {n : Nat} {l : List Pr} (hk : hs k = hashN seed k.1 k.2.1 k.2.2) (hl : ∀ q ∈ l, KOk hs seed q.1) : ((l.filter (fun p => decide (ordN (hashN seed k.1 k.2.1 k.2.2) (hashN seed p.1.1 p.1.2.1 p.1.2.2) k p.1 < 0))).take n) = behP hs k n l := by
  unfold behP
  congr 1
  refine List.filter_congr fun p hp => ?_
  rw [← hk, ← (hl p hp).2]
  have h1 := ordN_klt hs k p.1
  have h2 := ordN_range (hs k) (hs p.1) k p.1
  cases h : kltB hs k p.1
  · rw [decide_eq_false_iff_not]
    intro hc
    have := h1.1 (by omega)
    rw [h] at this
    cases this
  · rw [decide_eq_true_eq]
    have := h1.2 h
    omega
theorem page_eq (L : List Pr) (f1 : Int) (n f0 m : Nat) (h0 : min (max f1 0) (L.length : Int) = (f0 : Int)) (hm : min ((f0 : Int) + (n : Int)) (L.length : Int) = (m : Int)) : (L.drop f1.toNat).take n = (L.drop f0).take (m - f0) := by
  by_cases h : f1.toNat ≤ L.length
  · obtain rfl : f0 = f1.toNat := by omega
    rw [List.take_eq_take_iff, List.length_drop]
    omega
  · rw [List.drop_eq_nil_of_le (by omega), List.drop_eq_nil_of_le (show L.length ≤ f0 by omega), List.take_nil, List.take_nil]
structure Pg (w : World) (b bh seed : Nat) (j root : Nat) (M : Cells) (F : Nat → Prop) (L : List Pr) (v : Value) (zp z7 z8 : Nat) (p0 p1 : Int) (W : World) : Prop where
  ar : Ar W b 16384 M F
  hh : Hs W bh seed
  nb : ¬ F bh
  own : W.ownsRow w.heap.size 63 6 v L.length (L.flatMap pcells)
  nv : v.ownBlock ≠ some bh
  pb : C2 W zp 51 (.int .i64 p0) (.int .i64 p1)
  lb : C2 W z7 26 (ap b) (.pointer (some ⟨bh, 0, none⟩))
  mb : C2 W z8 30 (.int .i64 (L.length : Int)) (.int .i64 (root : Int))
  bel : Below w.heap.size w W
  lo : w.heap.size ≤ bh ∧ bh ≠ zp ∧ bh ≠ z7 ∧ bh ≠ z8
section
variable {w W W' : World} {b bh seed j root : Nat} {M : Cells} {F : Nat → Prop} {L : List Pr} {v : Value} {zp z7 z8 : Nat} {p0 p1 : Int}
theorem Pg.below (h : Pg w b bh seed j root M F L v zp z7 z8 p0 p1 W) (hb : Below W.heap.size W W') : Pg w b bh seed j root M F L v zp z7 z8 p0 p1 W' :=
  ⟨h.ar.below hb, h.hh.below hb, h.nb, (Kp.of_below hb (fun _ => False)).own h.own (fun _ _ h => h), h.nv, h.pb.below hb, h.lb.below hb, h.mb.below hb, h.bel.trans (hb.mono h.bel.size), h.lo⟩
theorem Pg.hash (h : Pg w b bh seed j root M F L v zp z7 z8 p0 p1 W) (hk : Kp (fun q => q = bh) W W') (hh : Hs W' bh seed) : Pg w b bh seed j root M F L v zp z7 z8 p0 p1 W' :=
  ⟨h.ar.kp hk (fun q hf hg => h.nb (hg ▸ hf)), hh, h.nb, hk.own h.own (fun q hq hg => h.nv (hg ▸ hq)), h.nv, h.pb.kp hk (fun e => h.lo.2.1 e.symm), h.lb.kp hk (fun e => h.lo.2.2.1 e.symm), h.mb.kp hk (fun e => h.lo.2.2.2 e.symm), below_kp h.bel hk (fun q hg => by rw [hg]; exact h.lo.1), h.lo⟩
end
def PgOut (w : World) (bh : Nat) (L : List Pr) (f1 n1 : Int) (s13 s14 : Value) (W : World) : Prop :=
  (∃ n : Nat, n1 = (n : Int) ∧ n ≤ 64 ∧ s14 = .int .i64 0 ∧ W.ownsRow w.heap.size 48 6 s13 ((L.drop f1.toNat).take n).length (((L.drop f1.toNat).take n).flatMap pcells) ∧ s13.ownBlock ≠ some bh) ∨ (¬ (0 ≤ n1 ∧ n1 ≤ 64) ∧ s14 = .int .i64 1 ∧ s13 = .slice none 0 0)
theorem PgOut.below {w : World} {bh : Nat} {L : List Pr} {f1 n1 : Int} {s13 s14 : Value} {W W' : World} (h : PgOut w bh L f1 n1 s13 s14 W) (hb : Below W.heap.size W W') : PgOut w bh L f1 n1 s13 s14 W' :=
  h.imp (fun ⟨n, h1, h2, h3, h4, h5⟩ => ⟨n, h1, h2, h3, (Kp.of_below hb (fun _ => False)).own h4 (fun _ _ h => h), h5⟩) id
theorem PgOut.kp {w : World} {bh : Nat} {L : List Pr} {f1 n1 : Int} {s13 s14 : Value} {W W' : World} {G : Nat → Prop} (h : PgOut w bh L f1 n1 s13 s14 W) (hk : Kp G W W') (hG : ∀ q, G q → ∃ cs t z, W.heap[q]? = some (.cells cs t z) ∧ 48 ≠ t) : PgOut w bh L f1 n1 s13 s14 W' :=
  h.imp (fun ⟨n, h1, h2, h3, h4, h5⟩ => ⟨n, h1, h2, h3, hk.own h4 (fun q ho hq => by
    obtain ⟨cs, t, z, hc, ht⟩ := hG q hq
    obtain ⟨cur, hc'⟩ := own_type h4 q ho
    rw [hc] at hc'
    simp only [Option.some.injEq, Obj.cells.injEq] at hc'
    exact ht hc'.2.1.symm), h5⟩) id
theorem Pg.kp {w W W' : World} {b bh seed j root : Nat} {M : Cells} {F : Nat → Prop} {L : List Pr} {v : Value} {zp z7 z8 : Nat} {p0 p1 : Int} {G : Nat → Prop} (h : Pg w b bh seed j root M F L v zp z7 z8 p0 p1 W) (hk : Kp G W W') (hG : ∀ q, G q → w.heap.size ≤ q ∧ ¬ F q ∧ q ≠ bh ∧ q ≠ zp ∧ q ≠ z7 ∧ q ≠ z8 ∧ v.ownBlock ≠ some q) : Pg w b bh seed j root M F L v zp z7 z8 p0 p1 W' :=
  ⟨h.ar.kp hk (fun q hf hg => (hG q hg).2.1 hf), h.hh.kp hk (fun hg => (hG _ hg).2.2.1 rfl), h.nb, hk.own h.own (fun q hq hg => (hG q hg).2.2.2.2.2.2 hq), h.nv, h.pb.kp hk (fun hg => (hG _ hg).2.2.2.1 rfl), h.lb.kp hk (fun hg => (hG _ hg).2.2.2.2.1 rfl), h.mb.kp hk (fun hg => (hG _ hg).2.2.2.2.2.1 rfl), below_kp h.bel hk (fun q hg => (hG q hg).1), h.lo⟩
theorem idx_at (m : Int) (N : Nat) (h0 : 1 ≤ N) (h1 : N ≤ 200) : ∃ i : Nat, i < N ∧ wrap64 ((IntKind.u64.wrap m).tmod (N : Int)) = (i : Int) := by
  have e0 : IntKind.u64.wrap m = m % 18446744073709551616 := by simp [IntKind.wrap, IntKind.bits, IntKind.signed]
  have h2 : 0 ≤ IntKind.u64.wrap m := by omega
  have h4 := Int.emod_nonneg (IntKind.u64.wrap m) (show (N : Int) ≠ 0 by omega)
  have h5 := Int.emod_lt_of_pos (IntKind.u64.wrap m) (show (0 : Int) < (N : Int) by omega)
  rw [Int.tmod_eq_emod_of_nonneg h2, IntWalk.wrap64_in _ (by omega)]
  exact ⟨(IntKind.u64.wrap m % (N : Int)).toNat, by omega, by omega⟩
section
set_option maxHeartbeats 4000000 in
theorem lpages9 (seed : Nat) (A : Option Addr) (l : List Ky) (c : Nat) (p0 p1 : Int) (w : World) (h : Lst w A l) (hf : ∀ k ∈ l, 0 ≤ k.1 ∧ k.1 ≤ 255) :
    Calls Tryz.prog 4 #[.int .u64 (seed : Nat), .slice A l.length c, .agg #[.int .i64 p0, .int .i64 p1]] w fun e w' => e = .returned (.bool true) ∧ Below w.heap.size w w' := by
  obtain ⟨hs, hhs⟩ : ∃ hs : Ky → Nat, ∀ q, OkK q → hs q = hashN seed q.1 q.2.1 q.2.2 := ⟨fun q => hashN seed q.1 q.2.1 q.2.2, fun _ _ => rfl⟩
  have HHS := Lib.hid hhs
  have HL := Lib.hid (And.intro h hf)
  have q5 := C2.new w 51 (.int .i64 p0) (.int .i64 p1)
  have HB0 := Lib.hid (show Below w.heap.size w (w.alloc (.cells #[.int .i64 p0, .int .i64 p1] 51)) from (Below.refl _ w).alloc (Nat.le_refl _) _)
  clear hhs h hf
  go_enter Tryz.func4, Tryz.ntmps4
  go_upto_region 1 with fail
  obtain ⟨zp, hzp⟩ : ∃ z, z = w.heap.size := ⟨_, rfl⟩
  generalize w.alloc (.cells #[.int .i64 p0, .int .i64 p1] 51) = w0 at q5 HB0 ⊢
  rw [← hzp] at q5 ⊢
  have ZP := Lib.hid hzp
  have Q5 := Lib.hid q5
  clear q5 hzp
  go_wp2_with fail
  refine (llives9 w0).mono ?_
  rintro e w1 ⟨rfl, hb1⟩
  have H1 := Lib.hid (And.intro (HB0.out.trans (hb1.mono HB0.out.size)) (Q5.out.below hb1))
  clear hb1 HB0 Q5
  by_cases h0 : ((l.length : Int) == 0) = true
  · go_wp2_with fail
    refine (llives9 w1).mono ?_
    rintro e w2 ⟨rfl, hb2⟩
    have H2 := Lib.hid (H1.out.1.trans (hb2.mono H1.out.1.size))
    clear hb2
    go_wp2_with fail
    go_ret
    exact ⟨rfl, H2.out⟩
  replace h0 : ((l.length : Int) == 0) = false := by simpa using h0
  have HN0 := Lib.hid (show 1 ≤ l.length by
    have h1 : ¬ (l.length : Int) = 0 := by simpa using h0
    omega)
  by_cases hlen : (200 : Int) < (l.length : Int)
  · go_wp2_with fail
    refine (llives9 w1).mono ?_
    rintro e w2 ⟨rfl, hb2⟩
    have H2 := Lib.hid (H1.out.1.trans (hb2.mono H1.out.1.size))
    clear hb2
    go_wp2_with fail
    go_ret
    exact ⟨rfl, H2.out⟩
  have HN := Lib.hid (show 1 ≤ l.length ∧ l.length ≤ 200 from ⟨HN0.out, by omega⟩)
  clear HN0
  go_wp2_with fail
  refine (lmade9 seed hs HHS.out A l c w1 (HL.out.1.below H1.out.1) HL.out.2 HN.out.2).mono ?_
  rintro e w2 ⟨b, bh, root, M, F, L, v, rfl, ⟨j0, hj0, md⟩, hL⟩
  have MD := Lib.hid md
  have HB2 := Lib.hid (H1.out.1.trans (md.bel.mono H1.out.1.size))
  have HJ0 := Lib.hid hj0
  have P2 := Lib.hid (And.intro (H1.out.2.below md.bel) (And.intro H1.out.2.lt H1.out.1.size))
  clear md hL hj0 H1
  cases hall : l.all okB
  · clear hall hlen h0
    go_wp2_with fail
    go_ret
    exact ⟨rfl, (HB2.out.alloc HB2.out.size _).alloc (by have := HB2.out.size; simp; omega) _⟩
  have HALL := Lib.hid hall
  clear hall hlen h0
  go_upto_region 6 with fail
  have st0 : Pg w b bh seed j0 root M F L v zp w2.heap.size (w2.heap.size + 1) p0 p1 ((w2.alloc (.cells #[ap b, .pointer (some ⟨bh, 0, none⟩)] 26)).alloc (.cells #[.int .i64 (L.length : Int), .int .i64 (root : Int)] 30)) := by
    have b3 : Below w2.heap.size w2 ((w2.alloc (.cells #[ap b, .pointer (some ⟨bh, 0, none⟩)] 26)).alloc (.cells #[.int .i64 (L.length : Int), .int .i64 (root : Int)] 30)) := ((Below.refl _ w2).alloc (Nat.le_refl _) _).alloc (by simp) _
    have q3 := C2.new (w2.alloc (.cells #[ap b, .pointer (some ⟨bh, 0, none⟩)] 26)) 30 (.int .i64 (L.length : Int)) (.int .i64 (root : Int))
    have hbl := MD.out.hh.lt
    exact ⟨MD.out.ar.below b3, MD.out.hh.below b3, MD.out.nb, (Kp.of_below b3 (fun _ => False)).own (own_base MD.out.own P2.out.2.2) (fun _ _ h => h), fun e => (MD.out.far bh e).2 rfl, P2.out.1.below b3, (C2.new w2 _ _ _).alloc _, by simpa using q3, HB2.out.trans (b3.mono HB2.out.size), Nat.le_trans P2.out.2.2 MD.out.lo, by have h1 := MD.out.lo; have h2 := P2.out.2.1; omega, by omega, by omega⟩
  have hz2 : zp < w2.heap.size := P2.out.1.lt
  generalize (w2.alloc (.cells #[ap b, .pointer (some ⟨bh, 0, none⟩)] 26)).alloc (.cells #[.int .i64 (L.length : Int), .int .i64 (root : Int)] 30) = w3 at st0 ⊢
  obtain ⟨z7, hz7⟩ : ∃ z, z = w2.heap.size := ⟨_, rfl⟩
  obtain ⟨z8, hz8⟩ : ∃ z, z = w2.heap.size + 1 := ⟨_, rfl⟩
  have S3 := Lib.hid (show Pg w b bh seed j0 root M F L v zp z7 z8 p0 p1 w3 from by rw [hz8, hz7]; exact st0)
  rw [← hz8, ← hz7]
  have HM := Lib.hid (And.intro MD.out.bk.zero (And.intro MD.out.mp (And.intro (show L.length ≤ 200 from Nat.le_trans MD.out.len HJ0.out) MD.out.keys)))
  clear hz7 hz8 st0 hz2 MD HB2 P2 HJ0
  obtain ⟨x0, x1, _⟩ := S3.out.pb.all
  go_quiet (fail)
  have S4 := Lib.hid (S3.out.below (below_drewN _ nq))
  clear x0 x1 S3
  generalize w3.drewN nq = w4 at S4 ⊢
  obtain ⟨x0, x1, _, _⟩ := S4.out.pb.all
  obtain ⟨c0, c1, _, _⟩ := S4.out.lb.all
  obtain ⟨c2, c3, _, _⟩ := S4.out.mb.all
  go_upto_region 7 with fail
  have hfb : -300 < p0.tmod 300 ∧ p0.tmod 300 < 300 := ⟨Int.lt_tmod_of_pos p0 (by decide), Int.tmod_lt_of_pos p0 (by decide)⟩
  generalize p0.tmod 300 = f1 at hfb ⊢
  generalize p1.tmod 80 = n1
  have HFB := Lib.hid hfb
  clear hfb
  go_cut [13, 14] from 51 to 58 (fun s13 s14 wc => Pg w b bh seed j0 root M F L v zp z7 z8 p0 p1 wc ∧ PgOut w bh L f1 n1 s13 s14 wc)
  case first =>
    by_cases hn : 0 ≤ n1 ∧ n1 ≤ 64
    · obtain ⟨n, rfl⟩ := Int.eq_ofNat_of_zero_le hn.1
      have HNN := Lib.hid (show n ≤ 64 by omega)
      clear hn
      go_wp2_with fail
      refine (vPage_yes (b := b) (bh := bh) (N := L.length) (root := root) f1 n w4 S4.out.ar HM.out.1 HM.out.2.1 (by have := HM.out.2.2.1; omega) HNN.out (by have := HFB.out; omega)).mono ?_
      rintro e w5 ⟨v5, rfl, hown, hb5⟩
      have S5 := Lib.hid (S4.out.below hb5)
      have R5 := Lib.hid (And.intro (own_base hown S4.out.bel.size) (show v5.ownBlock ≠ some bh from fun e => by have h1 := (own_blk hown bh e).1; have := S4.out.hh.lt; omega))
      clear hown hb5 S4 c0 c1 c2 c3 x0 x1
      go_wp2_with fail
      go_meet
      exact ⟨S5.out, .inl ⟨n, rfl, HNN.out, rfl, R5.out.1, R5.out.2⟩⟩
    · have HX := Lib.hid hn
      clear hn
      go_wp2_with fail
      refine (vPage_no b bh L.length root f1 n1 w4 HX.out).mono ?_
      rintro e w5 ⟨rfl, hb5⟩
      have S5 := Lib.hid (S4.out.below hb5)
      clear hb5 S4 c0 c1 c2 c3 x0 x1
      go_wp2_with fail
      go_meet
      exact ⟨S5.out, .inr ⟨HX.out, rfl, rfl⟩⟩
  case rest =>
    clear c0 c1 c2 c3 x0 x1 S4
    obtain ⟨s4, o4⟩ := hcut
    have S4 := Lib.hid s4
    have O4 := Lib.hid o4
    clear s4 o4
    obtain ⟨x0, x1, _, _⟩ := S4.out.pb.all
    have hne : ¬ (l.length : Int) = 0 := by have := HN.out; omega
    obtain ⟨i0, hi0, hi1⟩ := idx_at p0 l.length HN.out.1 HN.out.2
    obtain ⟨k, hk⟩ : ∃ k, l[i0]? = some k := ⟨_, List.getElem?_eq_getElem hi0⟩
    have HK := Lib.hid hk
    have HI1 := Lib.hid hi1
    obtain ⟨g, o, rfl, hg, y0, y1, y2⟩ := (HL.out.1.below S4.out.bel).at hk
    have z1 : (0 : Int) ≤ (i0 : Int) := by omega
    have z2 : (i0 : Int) < (l.length : Int) := by omega
    clear hk hi0
    go_upto_region 9 with fail
    have S5 := Lib.hid (S4.out.below ((Below.refl _ wc).alloc (Nat.le_refl _) (.cells #[.int .u8 k.1, .int .i64 k.2.1, .string k.2.2] 36)))
    have O5 := Lib.hid (O4.out.below ((Below.refl _ wc).alloc (Nat.le_refl _) (.cells #[.int .u8 k.1, .int .i64 k.2.1, .string k.2.2] 36)))
    have K5 := Lib.hid (C3.new wc 36 (.int .u8 k.1) (.int .i64 k.2.1) (.string k.2.2))
    have Z5 := Lib.hid (show bh < wc.heap.size ∧ zp < wc.heap.size ∧ z7 < wc.heap.size ∧ z8 < wc.heap.size ∧ w.heap.size ≤ wc.heap.size from ⟨S4.out.hh.lt, S4.out.pb.lt, S4.out.lb.lt, S4.out.mb.lt, S4.out.bel.size⟩)
    have NO5 := Lib.hid (show v.ownBlock ≠ some wc.heap.size from fun e => by
      obtain ⟨cur, hc⟩ := own_type S4.out.own _ e
      exact absurd (Array.getElem?_eq_some_iff.1 hc).1 (Nat.lt_irrefl _))
    have Z15 := Lib.hid (show ¬ F wc.heap.size from fun hf => absurd (S4.out.ar.lt hf) (Nat.lt_irrefl _))
    clear y0 y1 y2 z1 z2 hne hi1 hg x0 x1 S4 O4
    generalize wc.alloc (.cells #[.int .u8 k.1, .int .i64 k.2.1, .string k.2.2] 36) = w5 at S5 O5 K5 ⊢
    generalize wc.heap.size = z15 at K5 Z5 NO5 Z15 ⊢
    have HKB := Lib.hid (HL.out.2 k (List.mem_of_getElem? HK.out))
    have ZF5 := Lib.hid (show ¬ F z15 from Z15.out)
    obtain ⟨x0, x1, _, _⟩ := S5.out.pb.all
    obtain ⟨y0, y1, y2, y3, y4, y5⟩ := K5.out.all
    go_upto_if 73 with fail
    go_cut [] from 74 to 77 (fun wd => Pg w b bh seed j0 root M F L v zp z7 z8 p0 p1 wd ∧ PgOut w bh L f1 n1 u13 u14 wd ∧ ∃ n' : Int, C3 wd z15 36 (.int .u8 k.1) (.int .i64 n') (.string k.2.2))
    case first =>
      by_cases h3 : p1.tmod 3 = 0
      · have hb3 : (p1.tmod 3 == 0) = true := by simpa using h3
        go_wp2_with fail
        go_meet
        have kz := Kp.one w5 z15 1 (.int .i64 (wrap64 (k.2.1 + 1)))
        exact ⟨S5.out.kp kz (fun q e => by have := Z5.out; rw [e]; exact ⟨by omega, ZF5.out, by omega, by omega, by omega, by omega, NO5.out⟩), O5.out.kp kz (fun q e => by cases e; exact ⟨_, _, _, K5.out, by decide⟩), _, K5.out.set1 _⟩
      · have hb3 : (p1.tmod 3 == 0) = false := by simpa using h3
        go_wp2_with fail
        go_meet
        exact ⟨S5.out, O5.out, k.2.1, K5.out⟩
    case rest =>
      clear S5 O5 K5 x0 x1 y0 y1 y2 y3 y4 y5
      obtain ⟨s6, o6, n', c6⟩ := hcut
      rename World => wd
      have S6 := Lib.hid s6
      have O6 := Lib.hid o6
      have C6' := Lib.hid c6
      obtain ⟨y0, y1, y2, y3, y4, y5⟩ := c6.all
      clear s6 o6 c6
      go_wp2_with fail
      refine (lof9 (k.1, n', k.2.2) wd).mono ?_
      rintro e w8 ⟨rfl, hb8⟩
      have HB8 := Lib.hid hb8
      clear hb8
      go_wp2_with fail
      refine (ref_right k.1 n' k.2.2 w8).mono ?_
      rintro e w9 ⟨rfl, g9⟩
      have HB9 := Lib.hid (HB8.out.trans (g9.below.mono HB8.out.size))
      clear HB8 g9 y0 y1 y2 y3 y4 y5
      have S9 := Lib.hid (S6.out.below HB9.out)
      have O9 := Lib.hid (O6.out.below HB9.out)
      have C9 := Lib.hid (C6'.out.below HB9.out)
      clear S6 O6 C6' HB9
      obtain ⟨y0, y1, y2, y3, y4, y5⟩ := C9.out.all
      go_upto_if 81 with fail
      go_cut [] from 80 to 82 (fun wd => Pg w b bh seed j0 root M F L v zp z7 z8 p0 p1 wd ∧ PgOut w bh L f1 n1 u13 u14 wd ∧ ∃ k' : Ky, OkK k' ∧ C3 wd z15 36 (.int .u8 k'.1) (.int .i64 k'.2.1) (.string k'.2.2))
      case first =>
        cases hr : rightB k.1 n' k.2.2
        · go_wp2_with fail
          go_meet
          have kz := ((Kp.one w9 z15 0 (.int .u8 0)).trans (Kp.one _ z15 1 (.int .i64 0)) (fun _ => .inl)).trans (Kp.one _ z15 2 (.string ⟨#[]⟩)) (fun _ => .inl)
          exact ⟨S9.out.kp kz (fun q e => by have := Z5.out; rw [e]; exact ⟨by omega, ZF5.out, by omega, by omega, by omega, by omega, NO5.out⟩), O9.out.kp kz (fun q e => by cases e; exact ⟨_, _, _, C9.out, by decide⟩), (0, 0, ⟨#[]⟩), ⟨by decide, by decide, by decide⟩, ((C9.out.set0 _).set1 _).set2 _⟩
        · have HR := Lib.hid hr
          clear hr
          go_wp2_with fail
          go_meet
          exact ⟨S9.out, O9.out, (k.1, n', k.2.2), ⟨HKB.out.1, HKB.out.2, by have := right_small HR.out; show 17 + k.2.2.size ≤ _; omega⟩, C9.out⟩
      case rest =>
        clear S9 O9 C9 y0 y1 y2 y3 y4 y5
        obtain ⟨s6, o6, k', hk6, c6⟩ := hcut
        rename World => wd
        have S6 := Lib.hid s6
        have O6 := Lib.hid o6
        have C6' := Lib.hid c6
        have HK6 := Lib.hid hk6
        obtain ⟨y0, y1, y2, y3, y4, y5⟩ := c6.all
        obtain ⟨c0, c1, _, _⟩ := S6.out.lb.all
        obtain ⟨c2, c3, _, _⟩ := S6.out.mb.all
        clear s6 o6 c6 hk6
        by_cases hn : 0 ≤ n1 ∧ n1 ≤ 64
        · obtain ⟨n, rfl⟩ := Int.eq_ofNat_of_zero_le hn.1
          have HNN := Lib.hid (show n ≤ 64 by omega)
          clear hn
          go_wp2_with fail
          refine (vAfter_yes (b := b) (bh := bh) (N := L.length) (root := root) (seed := seed) k' n wd S6.out.ar HM.out.1 HM.out.2.1 (by have := HM.out.2.2.1; omega) HNN.out S6.out.hh S6.out.nb HK6.out (fun q hq => (HM.out.2.2.2 q hq).1)).mono ?_
          rintro e w10 ⟨v10, rfl, hown, hkp, hh10⟩
          rw [behP_ord (hs := hs) (HHS.out k' HK6.out) HM.out.2.2.2] at hown
          have S10 := Lib.hid (S6.out.hash hkp hh10)
          have R10 := Lib.hid (own_base hown S6.out.bel.size)
          have OO : u14 = .int .i64 0 ∧ w10.ownsRow w.heap.size 48 6 u13 ((L.drop f1.toNat).take n).length (((L.drop f1.toNat).take n).flatMap pcells) := by
            rcases O6.out with ⟨m, hm, _, h14, hr, hb⟩ | ⟨hm, _⟩
            · obtain rfl : n = m := by omega
              exact ⟨h14, hkp.own hr (fun q ho hq => hb (hq ▸ ho))⟩
            · exact absurd ⟨by omega, by have := HNN.out; omega⟩ hm
          have O10 := Lib.hid OO.2
          obtain ⟨rfl, _⟩ := OO
          have y6 : ¬ ((n : Int) < 0) := by omega
          have y7 : ¬ ((64 : Int) < (n : Int)) := by have := HNN.out; omega
          have K10 := Lib.hid (C6'.out.kp hkp (fun e => by have := Z5.out; omega))
          clear hown hkp hh10 S6 O6 C6' y0 y1 y2 y3 y4 y5 c0 c1 c2 c3
          obtain ⟨Av, cv, rfl, _⟩ := (Rd.of_own S10.out.own).form
          go_upto_region 18 with fail
          obtain ⟨f0, hf0⟩ : ∃ f0 : Nat, min (max f1 0) (L.length : Int) = (f0 : Int) := ⟨(min (max f1 0) (L.length : Int)).toNat, by omega⟩
          rw [hf0]
          have HF0 := Lib.hid hf0
          clear hf0
          obtain ⟨i1, hi1, hy0, hy1, hy2⟩ := info_parts pinfo8
          have HI := Lib.hid hi1
          have HSZ := Lib.hid S10.out.bel.size
          clear hi1
          go_wp2_with fail
          have hgl : (L.length : Int) ≤ 200 := by have := HM.out.2.2.1; omega
          go_loopg [19, 118] L.length (fun c' s19 s118 wr => ∃ j : Nat, j + c' = L.length ∧ s118 = .int .i64 (j : Int) ∧ Below w10.heap.size w10 wr ∧ wr.ownsRow w10.heap.size 63 6 s19 (behP hs k' n (L.take j)).length ((behP hs k' n (L.take j)).flatMap pcells))
          case atStart => exact ⟨0, by omega, rfl, Below.refl _ _, by simp only [List.take_zero, behP, List.filter_nil, List.take_nil]; exact World.ownsRow_nil _ _ _ _⟩
          case round =>
            obtain ⟨j, hj, rfl, hb, ho⟩ := hrel
            obtain ⟨A1, m1, rfl, _⟩ := (Rd.of_own ho).form
            have HB := Lib.hid hb
            have HO := Lib.hid ho
            by_cases hlt : j < L.length
            · obtain ⟨x, hx⟩ : ∃ x, L[j]? = some x := ⟨_, List.getElem?_eq_getElem hlt⟩
              obtain ⟨g1, o1, _, e1, x0, x1, x2, x3, x4, x5⟩ := rd6 ((Rd.of_own S10.out.own).below hb) hx
              simp only [Value.slice.injEq, true_and] at e1
              obtain ⟨rfl, rfl⟩ := e1
              have HX := Lib.hid hx
              have HJ := Lib.hid (And.intro hj hlt)
              have z3 : (0 : Int) ≤ (j : Int) := by omega
              have z4 : (j : Int) < (L.length : Int) := by omega
              have hac := Lib.hid (show (behP hs k' n (L.take j)).length ≤ 200 from Nat.le_trans (behP_le _ _ _ _) (by rw [List.length_take]; have := HM.out.2.2.1; omega))
              clear hb ho hx hj
              go_upto_region 21 with fail
              have q6 := C6.new wr 63 (.int .u8 x.1.1) (.int .i64 x.1.2.1) (.string x.1.2.2) (.int .u8 x.2.1) (.int .i64 x.2.2.1) (.string x.2.2.2)
              have b6 := (Below.refl _ wr).alloc (Nat.le_refl _) (.cells #[.int .u8 x.1.1, .int .i64 x.1.2.1, .string x.1.2.2, .int .u8 x.2.1, .int .i64 x.2.2.1, .string x.2.2.2] 63)
              have HB6 := Lib.hid (HB.out.trans (b6.mono HB.out.size))
              have HO6 := Lib.hid ((Kp.of_below b6 (fun _ => False)).own HO.out (fun _ _ h => h))
              clear x0 x1 x2 x3 x4 x5 b6 HB HO
              generalize wr.alloc (.cells #[.int .u8 x.1.1, .int .i64 x.1.2.1, .string x.1.2.2, .int .u8 x.2.1, .int .i64 x.2.2.1, .string x.2.2.2] 63) = w6 at q6 HB6 HO6 ⊢
              obtain ⟨z21, hz21⟩ : ∃ z, z = wr.heap.size := ⟨_, rfl⟩
              rw [← hz21] at q6 ⊢
              clear hz21
              have Q6 := Lib.hid q6
              clear q6
              have x0 := Gb.cell (Q6.out.all.1) Q6.out.lt
              have x1 := Gb.cell (Q6.out.all.2.1) Q6.out.lt
              have x2 := Gb.cell (Q6.out.all.2.2.1) Q6.out.lt
              have hkl := (K10.out.below HB6.out)
              have y0 := Gb.cell (hkl.all.1) hkl.lt
              have y1 := Gb.cell (hkl.all.2.1) hkl.lt
              have y2 := Gb.cell (hkl.all.2.2.1) hkl.lt
              have HLS := Lib.hid (fun W => rless hs seed k' x.1 HK6.out (HM.out.2.2.2 x (List.mem_of_getElem? HX.out)).1 (HHS.out k' HK6.out) (HM.out.2.2.2 x (List.mem_of_getElem? HX.out)).2 W)
              have HST := Lib.hid (behP_step (hs := hs) (k := k') (n := n) HX.out)
              generalize behP hs k' n (L.take j) = ac at hac HO6 HST ⊢
              clear hkl
              by_cases hlm : (ac.length : Int) < (n : Int)
              · have HLM := Lib.hid (show ac.length < n by omega)
                refine region_below (by kernel_rfl) (by kernel_rfl) ?_
                repeat (go_big_quiet_step ((first | (go_at_call 27; exact Gb.calls _ (lof9 (_, _, _) _)) | (go_at_call 29; exact Gb.calls _ (HLS.out _)))))
                refine wpQuiet_nil ?_
                rintro _ ⟨g9, rfl⟩
                have HB9 := Lib.hid (HB6.out.trans (g9.below.mono HB6.out.size))
                have HO9 := Lib.hid ((Kp.of_below g9.below (fun _ => False)).own HO6.out (fun _ _ h => h))
                have Q9 := Lib.hid (Q6.out.below g9.below)
                generalize g9.at' = w9 at HB9 HO9 Q9 ⊢
                clear y0 y1 y2 x0 x1 x2 g9 HB6 HO6 Q6 HLS
                cases hkl : kltB hs k' x.1
                · have HST2 := Lib.hid (show behP hs k' n (L.take (j + 1)) = ac from by rw [HST.out, hkl]; simp)
                  clear hkl
                  go_wp2_with fail
                  go_roundg (L.length - (j + 1))
                  case measure => have := HJ.out; omega
                  case rel => exact ⟨j + 1, by have := HJ.out; omega, by go_num, HB9.out, by rw [HST2.out]; exact HO9.out⟩
                · have HST2 := Lib.hid (show behP hs k' n (L.take (j + 1)) = ac ++ [x] from by rw [HST.out, hkl, if_pos ⟨HLM.out, rfl⟩])
                  clear hkl
                  obtain ⟨x0, x1, x2, x3, x4, x5, _⟩ := Q9.out.all
                  go_wp2_with (at_builtin; refine wpList_append_rd rfl _ _ 52 rfl w10.heap.size 63 i1 _ 6 64 Tryz.underlying52 HI.out hy0 hy1 hy2 rfl (by decide) (.slice A1 ac.length m1) ac.length (ac.flatMap pcells) rfl ?k0 _ 1 [.int .u8 x.1.1, .int .i64 x.1.2.1, .string x.1.2.2, .int .u8 x.2.1, .int .i64 x.2.2.1, .string x.2.2.2] rfl ?k1 rfl (by simp [Value.oneCell']) ?k2 ?k3 ?k4 ?_)
                  case k0 => exact (Kp.of_below ((Below.refl _ w9).alloc (Nat.le_refl _) _) (fun _ => False)).own HO9.out (fun _ _ => id)
                  case k1 => exact rd_six _ _ _ _ _ _ _ _ _ rfl
                  case k2 => have := hac.out; unfold maxLen; omega
                  case k3 => have := hac.out; omega
                  case k4 => have := HB9.out.size; simp; omega
                  intro v7 w7 hown hg hat
                  obtain ⟨A3, m3, rfl, _⟩ := (Rd.of_own hown).form
                  have hbw := HB9.out.alloc HB9.out.size (.cells #[.int .u8 x.1.1, .int .i64 x.1.2.1, .string x.1.2.2, .int .u8 x.2.1, .int .i64 x.2.2.1, .string x.2.2.2] 63)
                  have HB7 := Lib.hid (hbw.grown hg hbw.size (fun q e => (HO9.out.lt q e).1))
                  have HO7 := Lib.hid (show w7.ownsRow w10.heap.size 63 6 (.slice A3 (ac.length + 1) m3) (ac ++ [x]).length ((ac ++ [x]).flatMap pcells) from by rw [List.length_append, List.flatMap_append, List.flatMap_singleton]; exact hown)
                  clear hown hg hat hbw x0 x1 x2 x3 x4 x5 HB9 HO9 Q9
                  go_wp2_with fail
                  go_roundg (L.length - (j + 1))
                  case measure => have := HJ.out; omega
                  case rel => exact ⟨j + 1, by have := HJ.out; omega, by go_num, HB7.out, by rw [HST2.out]; exact HO7.out⟩
              · have HST2 := Lib.hid (show behP hs k' n (L.take (j + 1)) = ac from by rw [HST.out, if_neg (fun h => by have := h.1; omega)])
                refine region_below (by kernel_rfl) (by kernel_rfl) ?_
                repeat (go_big_quiet_step (fail))
                refine wpQuiet_nil ?_
                rintro _ ⟨g9, rfl⟩
                have HB9 := Lib.hid (HB6.out.trans (g9.below.mono HB6.out.size))
                have HO9 := Lib.hid ((Kp.of_below g9.below (fun _ => False)).own HO6.out (fun _ _ h => h))
                generalize g9.at' = w9 at HB9 HO9 ⊢
                clear y0 y1 y2 x0 x1 x2 g9 HB6 HO6 Q6 HLS
                go_wp2_with fail
                go_roundg (L.length - (j + 1))
                case measure => have := HJ.out; omega
                case rel => exact ⟨j + 1, by have := HJ.out; omega, by go_num, HB9.out, by rw [HST2.out]; exact HO9.out⟩
            · obtain rfl : j = L.length := by omega
              clear hb ho
              rw [List.take_length] at HO
              rw [List.take_length]
              obtain ⟨m0, hm0⟩ : ∃ m0 : Nat, min ((f0 : Int) + (n : Int)) (L.length : Int) = (m0 : Int) := ⟨(min ((f0 : Int) + (n : Int)) (L.length : Int)).toNat, by omega⟩
              have HM0 := Lib.hid hm0
              have z5 : (f0 : Int) ≤ (m0 : Int) := by have := HF0.out; omega
              have z6 : (m0 : Int) ≤ (L.length : Int) := by omega
              have z7' : (0 : Int) ≤ (f0 : Int) := by omega
              have HPE := Lib.hid (page_eq L f1 n f0 m0 HF0.out hm0)
              have RS := Lib.hid (rd_sub6 ((Rd.of_own S10.out.own).below HB.out) rfl (show f0 ≤ m0 by omega) (show m0 ≤ L.length by omega) rfl)
              have R1 := Lib.hid ((Rd.of_own O10.out).below HB.out)
              have R2 := Lib.hid ((Rd.of_own R10.out).below HB.out)
              have R3 := Lib.hid (Rd.of_own HO.out)
              have HBE := Lib.hid (S10.out.bel.trans (HB.out.mono S10.out.bel.size))
              rw [HPE.out] at R1
              have HW := Lib.hid (show wrap64 ((f0 : Int) + (n : Int)) = (f0 : Int) + (n : Int) from IntWalk.wrap64_in _ (by omega))
              clear HB HO O10 R10 S10
              clear HPE HF0 hj hlt
              have hl1 : (behP hs k' n L).length ≤ 1000000 := Nat.le_trans (behP_le _ _ _ _) (by omega)
              have hl2 : ((L.drop f0).take (m0 - f0)).length ≤ 1000000 := by rw [List.length_take, List.length_drop]; omega
              have HLL := Lib.hid (And.intro hl1 hl2)
              have HCV := Lib.hid (show (m0 : Int) ≤ (cv : Int) ∧ (f0 : Int) ≤ (m0 : Int) ∧ (m0 : Int) ≤ (L.length : Int) from ⟨by omega, z5, z6⟩)
              clear hl1 hl2 hgl hm0 z5 z6
              generalize (L.drop f0).take (m0 - f0) = ps at R1 RS HLL ⊢
              have HZ := Lib.hid (fun h : cv = f0 => show m0 - f0 = 0 from by have := HCV.out; omega)
              have e9 : min (wrap64 ((f0 : Int) + (n : Int))) (L.length : Int) = (m0 : Int) := by rw [HW.out]; exact HM0.out
              have e0 : 0 ≤ min (wrap64 ((f0 : Int) + (n : Int))) (L.length : Int) := by rw [e9]; exact Int.natCast_nonneg _
              have e1 : min (wrap64 ((f0 : Int) + (n : Int))) (L.length : Int) ≤ (cv : Int) := by rw [e9]; exact HCV.out.1
              have e2 : (f0 : Int) ≤ min (wrap64 ((f0 : Int) + (n : Int))) (L.length : Int) := by rw [e9]; exact HCV.out.2.1
              have e3 : f0 ≤ (min (wrap64 ((f0 : Int) + (n : Int))) (L.length : Int)).toNat := by rw [e9, Int.toNat_natCast]; exact Int.ofNat_le.1 HCV.out.2.1
              have e4 : m0 = (min (wrap64 ((f0 : Int) + (n : Int))) (L.length : Int)).toNat := by rw [e9, Int.toNat_natCast]
              by_cases hcap : cv = f0
              · have RB := Lib.hid (show Rd wr (.slice Av 0 0) ps.length (ps.flatMap pcells) from by
                  have h1 := RS.out.2 hcap
                  rwa [HZ.out hcap] at h1)
                clear RS e9 e4 z7'
                subst hcap
                go_wp2_with fail
                refine (lsame9 ps _ _ wr R1.out RB.out HLL.out.2).mono ?_
                rintro e w11 ⟨rfl, hb11⟩
                have HB11 := Lib.hid hb11
                clear hb11
                go_wp2_with fail
                refine (lsame9 (behP hs k' n L) _ _ w11 (R2.out.below HB11.out) (R3.out.below HB11.out) HLL.out.1).mono ?_
                rintro e w12 ⟨rfl, hb12⟩
                have HB12 := Lib.hid (HBE.out.trans ((HB11.out.trans (hb12.mono HB11.out.size)).mono HBE.out.size))
                clear hb12
                go_wp2_with fail
                go_ret
                exact ⟨rfl, HB12.out⟩
              · have RB := Lib.hid (RS.out.1 hcap)
                rw [e4] at RB
                clear RS e9 e4 z7'
                go_wp2_with fail
                refine (lsame9 ps _ _ wr R1.out RB.out HLL.out.2).mono ?_
                rintro e w11 ⟨rfl, hb11⟩
                have HB11 := Lib.hid hb11
                clear hb11
                go_wp2_with fail
                refine (lsame9 (behP hs k' n L) _ _ w11 (R2.out.below HB11.out) (R3.out.below HB11.out) HLL.out.1).mono ?_
                rintro e w12 ⟨rfl, hb12⟩
                have HB12 := Lib.hid (HBE.out.trans ((HB11.out.trans (hb12.mono HB11.out.size)).mono HBE.out.size))
                clear hb12
                go_wp2_with fail
                go_ret
                exact ⟨rfl, HB12.out⟩
        · have HX := Lib.hid hn
          have OO : u14 = .int .i64 1 ∧ u13 = .slice none 0 0 := by
            rcases O6.out with ⟨m, hm, h64, _⟩ | ⟨_, h1, h2⟩
            · exact absurd ⟨by omega, by omega⟩ HX.out
            · exact ⟨h1, h2⟩
          obtain ⟨rfl, rfl⟩ := OO
          clear hn
          go_wp2_with fail
          refine (vAfter_no b bh L.length root k' n1 wd HX.out).mono ?_
          rintro e w10 ⟨rfl, hb10⟩
          have HB10 := Lib.hid (S6.out.bel.trans (hb10.mono S6.out.bel.size))
          clear hb10 y0 y1 y2 y3 y4 y5 c0 c1 c2 c3
          by_cases h1 : n1 < 0
          · go_wp2_with fail
            go_ret
            exact ⟨rfl, HB10.out⟩
          · have h2 : (64 : Int) < n1 := by have := HX.out; omega
            go_wp2_with fail
            go_ret
            exact ⟨rfl, HB10.out⟩
end
end Go.Proofs.YtfiledbjbpkleaaGreat

namespace Go.Proofs.YtfiledbjbpkleaaGreat
open Go.ChangeShapes Go.WideShapes Go.ChangeAt Go.RowKit Go.Joins Go.Deep

theorem pcellsI : Tryz.prog.cellsOf 3 = 1 := by kernel_rfl
theorem pcells2 : Tryz.prog.cellsOf 51 = 2 := by kernel_rfl
theorem okWide_arr {P : Program} {w : World} {r : Go.Reach} {base : Nat} {t e : TypeId} {n : Nat} {v : Value} (ht : P.underlying t = some (.array n e)) (h : Value.okWide P w r base t v) : ∃ cs, v = .agg cs ∧ cs.size = P.cellsOf t := by
  simp only [Value.okWide, ht] at h
  obtain ⟨cs, h1, h2, _⟩ := h
  exact ⟨cs, h1, h2⟩
section
variable {H : Type} {enc : TypeId × Value → H} {W : World} {base : Nat} {sp : Nat → Bool} {held : Bool}
set_option maxRecDepth 20000 in
theorem open_pair {v : Value} {d : DataW H} {p : List MemPlace} {r : Go.Reach} {b0 : Nat} (hv : Value.okWide Tryz.prog W r b0 51 v) (h : DataW.Trod enc Tryz.prog W base sp held 51 v d p) : ∃ a b : Int, v = .agg #[.int .i64 a, .int .i64 b] := by
  obtain ⟨cs, rfl, hsz⟩ := okWide_arr Tryz.underlying51 hv
  rw [pcells2] at hsz
  obtain ⟨c0, c1, rfl⟩ : ∃ c0 c1, cs = #[c0, c1] := by
    obtain ⟨l⟩ := cs
    match l, hsz with
    | [c0, c1], _ => exact ⟨c0, c1, rfl⟩
  obtain ⟨fuel, hf⟩ := h
  obtain ⟨zs, n2, _, _, _, hzl, hz⟩ := DataW.trod_array Tryz.underlying51 hf
  match zs, hzl with
  | [z0, z1], _ =>
    have g0 : DataW.trod enc Tryz.prog W base sp held n2 3 [c0] = some z0 := by simpa [pcellsI, Value.cells] using hz 0 (by omega)
    have g1 : DataW.trod enc Tryz.prog W base sp held n2 3 [c1] = some z1 := by simpa [pcellsI, Value.cells] using hz 1 (by omega)
    obtain ⟨a0, e0, _, _⟩ := DataW.trod_int Tryz.underlying3 g0
    obtain ⟨a1, e1, _, _⟩ := DataW.trod_int Tryz.underlying3 g1
    simp at e0 e1
    subst e0 e1
    exact ⟨a0, a1, rfl⟩
end

end Go.Proofs.YtfiledbjbpkleaaGreat

/- Several texts in one. -/
import Derived.Test.YtdddhmipifkepaaGreatMq03
import Derived.Test.YtdddhmipifkepaaGreatMq09
import Derived.Test.YtdddhmipifkepaaGreatMq08
import Derived.BigQuiet
import Derived.Deep.RegionHeld3
import Derived.Laws.EntriesVeiled
import Derived.IntWalk
namespace Go.Proofs.YtdddhmipifkepaaGreat
set_option maxRecDepth 100000
open Go.RowKit

theorem nsn_at {l : List Nat} {j q : Nat} (h : l[j]? = some q) : (nums (ns l))[j]? = some (.int .i64 (q : Nat)) := by
  unfold nums ns
  rw [List.getElem?_map, List.getElem?_map, h]
  rfl
set_option maxHeartbeats 800000 in
theorem vSearchInts (v : Value) (l : List Nat) (x n : Nat) (w : World) (h : Rd w v l.length (nums (ns l))) (hl : l.length ≤ 4194304) (hn : n ≤ l.length) (h0 : ∀ j q, j < n → l[j]? = some q → q < x) (h1 : ∀ j q, n ≤ j → l[j]? = some q → x ≤ q) :
    Calls Tryz.prog 161 #[v, .int .i64 (x : Nat)] w fun e w' => e = .returned (.int .i64 (n : Nat)) ∧ Below w.heap.size w w' := by
  obtain ⟨A, c, rfl, hc⟩ := h.form
  have e1 : (w.alloc (.cells #[.slice A l.length c] 107)).heap.size = w.heap.size + 1 := by simp
  have hb : Below w.heap.size w ((w.alloc (.cells #[.slice A l.length c] 107)).alloc (.cells #[.int .i64 (x : Nat)] 3)) := ((Below.refl _ w).alloc (Nat.le_refl _) _).alloc (by simp) _
  have q1 := (C1.new w 107 (.slice A l.length c)).alloc (.cells #[.int .i64 (x : Nat)] 3)
  have q2 := C1.new (w.alloc (.cells #[.slice A l.length c] 107)) 3 (.int .i64 (x : Nat))
  rw [e1] at q2
  have HR := Lib.hid (h.below hb)
  have HB := Lib.hid hb
  clear h hb e1
  go_enter Tryz.func161, Tryz.ntmps161
  go_upto_region 1 with fail
  generalize (w.alloc (.cells #[.slice A l.length c] 107)).alloc (.cells #[.int .i64 (x : Nat)] 3) = w1 at q1 q2 HR HB ⊢
  obtain ⟨z1, hz1⟩ : ∃ z, z = w.heap.size := ⟨_, rfl⟩
  rw [← hz1] at q1 q2 ⊢
  have HQ := Lib.hid (And.intro q1 q2)
  have hask : Asks w1 225 #[.pointer (some ⟨z1, 0, none⟩), .pointer (some ⟨z1 + 1, 0, none⟩)] l.length (fun j => .bool (decide (x ≤ l.getD j 0))) := by
    refine ⟨fun args W => by kernel_rfl, fun j hj W hW => ?_⟩
    obtain ⟨q, hq⟩ : ∃ q, l[j]? = some q := ⟨_, List.getElem?_eq_getElem hj⟩
    have hgd : l.getD j 0 = q := by rw [List.getD_eq_getElem?_getD, hq]; rfl
    dsimp only
    rw [hgd]
    obtain ⟨b0, o0, c0, ev, _, hx⟩ := (HR.out.below hW).at (nsn_at hq)
    simp only [Value.slice.injEq, true_and] at ev
    obtain ⟨rfl, rfl⟩ := ev
    have k1 := (HQ.out.1.below hW).c0
    have k2 := (HQ.out.2.below hW).c0
    have y1 : (0 : Int) ≤ (j : Int) := by omega
    have y2 : (j : Int) < (l.length : Int) := by omega
    have HHB := Lib.hid (Below.refl W.heap.size W)
    clear hW hz1 q1 q2 hgd hq
    show Calls Tryz.prog 225 #[.int .i64 (j : Nat), .pointer (some ⟨z1, 0, none⟩), .pointer (some ⟨z1 + 1, 0, none⟩)] W _
    go_enter Tryz.func225, Tryz.ntmps225
    go_wp2_with fail
    go_quiet (fail)
    go_wp2_with fail
    go_ret
    exact ⟨ret_bool (by first | rfl | simp), below_drewN _ _⟩
  have hz0 := q1.c0
  have HS := Lib.hid (vSearch 225 _ l.length n (fun j => decide (x ≤ l.getD j 0)) w1 hask (by omega) hn (fun j hj => by
    obtain ⟨q, hq⟩ : ∃ q, l[j]? = some q := ⟨_, List.getElem?_eq_getElem (by omega)⟩
    have := h0 j q hj hq
    rw [List.getD_eq_getElem?_getD, hq]
    exact decide_eq_false (by simp; omega)) (fun j hj hj2 => by
    obtain ⟨q, hq⟩ : ∃ q, l[j]? = some q := ⟨_, List.getElem?_eq_getElem hj2⟩
    have := h1 j q hj hq
    rw [List.getD_eq_getElem?_getD, hq]
    exact decide_eq_true (by simp; omega)))
  clear hask q1 q2 h0 h1 hz1
  go_wp2_with fail
  refine HS.out.mono ?_
  rintro e w2 ⟨rfl, hb2⟩
  have HB2 := Lib.hid (HB.out.trans (hb2.mono HB.out.size))
  clear hb2
  go_wp2_with fail
  go_ret
  exact ⟨rfl, HB2.out⟩

def cmpAt (k : Ky) (l : List Pr) (j : Nat) : Int := match l[j]? with
  | some q => vc k q.1
  | none => 0
set_option maxHeartbeats 1600000 in
theorem vfind (v : Value) (l : List Pr) (k : Ky) (w : World) (h : Rd w v (flatP l).length ((flatP l).flatMap cells3)) (so : Vso l) (hl : l.length ≤ 2097152) :
    Calls Tryz.prog 156 #[v, vv k.1 k.2.1 k.2.2] w fun e w' => e = .returned (.tuple #[.int .i64 (2 * lowN k l : Nat), .bool (hasN k l)]) ∧ Below w.heap.size w w' := by
  obtain ⟨A, c, rfl, hc⟩ := h.form
  have HFL := Lib.hid (flatP_length l)
  have e1 : (w.alloc (.cells #[.slice A (flatP l).length c] 50)).heap.size = w.heap.size + 1 := by simp
  have hb : Below w.heap.size w ((w.alloc (.cells #[.slice A (flatP l).length c] 50)).alloc (.cells #[.int .u8 k.1, .int .i64 k.2.1, .string k.2.2] 36)) := ((Below.refl _ w).alloc (Nat.le_refl _) _).alloc (by simp) _
  have q1 := (C1.new w 50 (.slice A (flatP l).length c)).alloc (.cells #[.int .u8 k.1, .int .i64 k.2.1, .string k.2.2] 36)
  have q2 := C3.new (w.alloc (.cells #[.slice A (flatP l).length c] 50)) 36 (.int .u8 k.1) (.int .i64 k.2.1) (.string k.2.2)
  rw [e1] at q2
  have HR := Lib.hid (h.below hb)
  have HB := Lib.hid hb
  clear h hb e1
  go_enter Tryz.func156, Tryz.ntmps156
  go_upto_region 1 with fail
  generalize (w.alloc (.cells #[.slice A (flatP l).length c] 50)).alloc (.cells #[.int .u8 k.1, .int .i64 k.2.1, .string k.2.2] 36) = w1 at q1 q2 HR HB ⊢
  obtain ⟨z1, hz1⟩ : ∃ z, z = w.heap.size := ⟨_, rfl⟩
  rw [← hz1] at q1 q2 ⊢
  have HQ := Lib.hid (And.intro q1 q2)
  obtain ⟨m, hm⟩ : ∃ m, m = (flatP l).length := ⟨_, rfl⟩
  have hask : Asks w1 222 #[.pointer (some ⟨z1 + 1, 0, none⟩), .pointer (some ⟨z1, 0, none⟩)] l.length (fun j => .int .i64 (cmpAt k l j)) := by
    refine ⟨fun args W => by kernel_rfl, fun j hj W hW => ?_⟩
    obtain ⟨q, hq⟩ : ∃ q, l[j]? = some q := ⟨_, List.getElem?_eq_getElem hj⟩
    have hgd : cmpAt k l j = vc k q.1 := by unfold cmpAt; rw [hq]
    dsimp only
    rw [hgd]
    obtain ⟨f0, f1, f2⟩ := flat3_at (flatP_at hq).1
    obtain ⟨b0, o0, c0, ev, _, x0⟩ := (HR.out.below hW).at f0
    simp only [Value.slice.injEq, true_and] at ev
    obtain ⟨rfl, rfl⟩ := ev
    have cel : ∀ i u, ((flatP l).flatMap cells3)[i]? = some u → W.cell? ⟨b0, o0 + i, none⟩ = some u := fun i u hi => by
      obtain ⟨b', o', c', ev, _, hx⟩ := (HR.out.below hW).at hi
      simp only [Value.slice.injEq, Option.some.injEq, Addr.mk.injEq, and_true, true_and] at ev
      obtain ⟨⟨rfl, rfl⟩, _⟩ := ev
      exact hx
    have x1 := cel _ _ f1
    have x2 := cel _ _ f2
    rw [show o0 + (2 * j * 3 + 1) = o0 + 2 * j * 3 + 1 by omega] at x1
    rw [show o0 + (2 * j * 3 + 2) = o0 + 2 * j * 3 + 2 by omega] at x2
    obtain ⟨p0, p1, p2, _⟩ := (HQ.out.2.below hW).all
    have k1 := (HQ.out.1.below hW).c0
    rw [← hm] at k1
    have hfl := HFL.out
    have y0 : 2 * (j : Int) = ((2 * j : Nat) : Int) := by omega
    have y9 : IntKind.i64.wrap ((2 * j : Nat) : Int) = ((2 * j : Nat) : Int) := IntWalk.i64_in _ (by omega)
    have y1 : (0 : Int) ≤ ((2 * j : Nat) : Int) := by omega
    have y2 : ((2 * j : Nat) : Int) < (m : Int) := by omega
    have HHB := Lib.hid (Below.refl W.heap.size W)
    obtain ⟨u, hu⟩ : ∃ u, u = 2 * j := ⟨_, rfl⟩
    rw [← hu] at x0 x1 x2 y0 y1 y2 y9
    clear hW hz1 q1 q2 hgd hq cel f0 f1 f2 hu hm hfl hj
    show Calls Tryz.prog 222 #[.int .i64 (j : Nat), .pointer (some ⟨z1 + 1, 0, none⟩), .pointer (some ⟨z1, 0, none⟩)] W _
    go_enter Tryz.func222, Tryz.ntmps222
    go_wp2_with fail
    have s0 : ∀ W', Below W.heap.size W W' → W'.cell? ⟨z1 + 1, 0, none⟩ = some (.int .u8 k.1) := fun W' h => (h.cell (p := ⟨z1 + 1, 0, none⟩) (World.block_lt_of_cell? _ _ p0)).trans p0
    have s1 : ∀ W', Below W.heap.size W W' → W'.cell? ⟨z1 + 1, 1, none⟩ = some (.int .i64 k.2.1) := fun W' h => (h.cell (p := ⟨z1 + 1, 1, none⟩) (World.block_lt_of_cell? _ _ p1)).trans p1
    have s2 : ∀ W', Below W.heap.size W W' → W'.cell? ⟨z1 + 1, 2, none⟩ = some (.string k.2.2) := fun W' h => (h.cell (p := ⟨z1 + 1, 2, none⟩) (World.block_lt_of_cell? _ _ p2)).trans p2
    have s3 : ∀ W', Below W.heap.size W W' → W'.cell? ⟨z1, 0, none⟩ = some (.slice (some ⟨b0, o0, none⟩) m c) := fun W' h => (h.cell (p := ⟨z1, 0, none⟩) (World.block_lt_of_cell? _ _ k1)).trans k1
    have s4 : ∀ W', Below W.heap.size W W' → W'.cell? ⟨b0, o0 + u * 3, none⟩ = some (.int .u8 q.1.1) := fun W' h => (h.cell (p := ⟨b0, o0 + u * 3, none⟩) (World.block_lt_of_cell? _ _ x0)).trans x0
    have s5 : ∀ W', Below W.heap.size W W' → W'.cell? ⟨b0, o0 + u * 3 + 1, none⟩ = some (.int .i64 q.1.2.1) := fun W' h => (h.cell (p := ⟨b0, o0 + u * 3 + 1, none⟩) (World.block_lt_of_cell? _ _ x1)).trans x1
    have s6 : ∀ W', Below W.heap.size W W' → W'.cell? ⟨b0, o0 + u * 3 + 2, none⟩ = some (.string q.1.2.2) := fun W' h => (h.cell (p := ⟨b0, o0 + u * 3 + 2, none⟩) (World.block_lt_of_cell? _ _ x2)).trans x2
    clear p0 p1 p2 k1 x0 x1 x2
    refine wp_region_noPanic ?_
    go_region_held (fun W' => Below W.heap.size W W') (first | with_reducible assumption | exact (Below.refl _ _).drew)
      ((go_at_call 136; refine (compare k.1 k.2.1 k.2.2 q.1.1 q.1.2.1 q.1.2.2 _).mono ?_; rintro e w' ⟨rfl, gw⟩; have hbn := HHB.out.drew.trans (gw.below.mono (Nat.le_refl _))))
    refine NoPanic.normal ?_
    go_wp2_with fail
    go_ret
    exact ⟨rfl, hbn⟩
  have hz0 := q1.c0
  have HS := Lib.hid (vFind 222 _ l.length (lowN k l) (cmpAt k l) w1 hask (by omega) (lowN_le k l) (fun j hj => by
    obtain ⟨q, hq⟩ : ∃ q, l[j]? = some q := ⟨_, List.getElem?_eq_getElem (by have := lowN_le k l; omega)⟩
    have := lowN_lt hj hq
    unfold cmpAt
    rw [hq]
    show 0 < vc k q.1
    omega) (fun j hj hj2 => by
    obtain ⟨q, hq⟩ : ∃ q, l[j]? = some q := ⟨_, List.getElem?_eq_getElem hj2⟩
    have h1 := lowN_ge so hj hq
    have h2 := vc_range k q.1
    unfold cmpAt
    rw [hq]
    show vc k q.1 ≤ 0
    omega))
  have hhas : decide (lowN k l < l.length ∧ cmpAt k l (lowN k l) = 0) = hasN k l := by
    unfold hasN cmpAt
    cases e : l[lowN k l]? with
    | none =>
      have := List.getElem?_eq_none_iff.1 e
      exact decide_eq_false (fun h => by omega)
    | some q =>
      have := (List.getElem?_eq_some_iff.1 e).1
      rw [Bool.eq_iff_iff, decide_eq_true_eq, decide_eq_true_eq]
      show _ ∧ vc k q.1 = 0 ↔ _
      rw [vc_eq]
      exact ⟨fun h => h.2.symm, fun h => ⟨this, h.symm⟩⟩
  rw [hhas] at HS
  have HLW := Lib.hid (lowN_le k l)
  have hq2 : ((flatP l).length : Int) / 2 = (l.length : Int) := by rw [HFL.out]; omega
  have hw2 : IntKind.i64.wrap (l.length : Int) = (l.length : Int) := IntWalk.i64_in _ (by omega)
  have hw3 : wrap64 (l.length : Int) = (l.length : Int) := IntWalk.wrap64_in _ (by omega)
  have hr1 : 2 * (lowN k l : Int) = ((2 * lowN k l : Nat) : Int) := by omega
  have hr2 : IntKind.i64.wrap ((2 * lowN k l : Nat) : Int) = ((2 * lowN k l : Nat) : Int) := IntWalk.i64_in _ (by have := HLW.out; omega)
  have hr3 : wrap64 ((2 * lowN k l : Nat) : Int) = ((2 * lowN k l : Nat) : Int) := IntWalk.wrap64_in _ (by have := HLW.out; omega)
  have HRR := Lib.hid (And.intro hr1 (And.intro hr2 hr3))
  clear hask q1 q2 hz1 hhas hm hr1 hr2 hr3
  go_wp2_with fail
  refine HS.out.mono ?_
  rintro e w2 ⟨rfl, hb2⟩
  have HB2 := Lib.hid (HB.out.trans (hb2.mono HB.out.size))
  clear hb2
  obtain ⟨hr1, hr2, hr3⟩ := HRR.out
  obtain ⟨t, ht⟩ : ∃ t, t = 2 * lowN k l := ⟨_, rfl⟩
  have HT := Lib.hid ht
  rw [← ht] at hr1 hr2 hr3
  clear ht
  go_wp2_with fail
  exact bodyPost_ret (v := .tuple #[.int .i64 (t : Nat), .bool (hasN k l)]) (by simp [results, Tryz.results156, go_sem]) rfl ⟨by rw [HT.out], HB2.out⟩

end Go.Proofs.YtdddhmipifkepaaGreat

namespace Go.Proofs.YtdddhmipifkepaaGreat

def sdx (s g b : Nat) : Nat := if s.testBit (dg g b) = true then cnt s (dg g b) else 0
section
variable (M : Cells) (hs : Ky → Nat) (g : Nat)
inductive Wy : Nat → Nat → List Pr → List (Nat × Nat) → List Pr → Prop
  | leaf {lv i : Nat} {l : List Pr} {c : Hc} {r : Nat} (h : LeafF M hs lv i l c r) : Wy lv i l [(i, 13)] l
  | node {lv i : Nat} {l : List Pr} {c : Hc} {r b s : Nat} {K : Nat → Nat} {L : Nat → List Pr} {d : Nat} {cl : List (Nat × Nat)} {lf : List Pr} (h : NodeF M hs lv i l c r b s K L) (hT : ∀ d, d < 32 → s.testBit d = true → HT M hs (b + 1) (K d) (L d))
    (hd : s.testBit d = true) (hx : cnt s d = sdx s g b) (hw : Wy (b + 1) (K d) (L d) cl lf) : Wy lv i l ((i, b) :: cl) lf
inductive Wp (k : Ky) : Nat → Nat → List Pr → List (Nat × Nat) → Nat → Nat → List Pr → Prop
  | nil {lv i : Nat} {l : List Pr} (h : HT M hs lv i l) : Wp k lv i l [] lv i l
  | cons {lv i : Nat} {l : List Pr} {c : Hc} {r b s : Nat} {K : Nat → Nat} {L : Nat → List Pr} {cl : List (Nat × Nat)} {lvj j : Nat} {lj : List Pr} (h : NodeF M hs lv i l c r b s K L) (hT : ∀ d, d < 32 → s.testBit d = true → HT M hs (b + 1) (K d) (L d))
    (hd : s.testBit (dg (hs k) b) = true) (ha : ∀ q ∈ l, ∀ x, x < b → dg (hs k) x = dg (hs q.1) x) (hw : Wp k (b + 1) (K (dg (hs k) b)) (L (dg (hs k) b)) cl lvj j lj) : Wp k lv i l ((i, b) :: cl) lvj j lj
end
section
variable {M M' : Cells} {hs : Ky → Nat} {g lv i : Nat} {l lf : List Pr} {cl : List (Nat × Nat)}
theorem low_bit {s : Nat} (h : 1 ≤ cnt s 32) : ∃ d, d < 32 ∧ s.testBit d = true ∧ cnt s d = 0 := by
  have key : ∀ n, 1 ≤ cnt s n → ∃ d, d < n ∧ s.testBit d = true ∧ cnt s d = 0 := fun n => by
    induction n with
    | zero => intro h; simp [cnt] at h
    | succ n ih =>
      intro h
      by_cases h0 : 1 ≤ cnt s n
      · obtain ⟨d, h1, h2⟩ := ih h0
        exact ⟨d, by omega, h2⟩
      · cases e : s.testBit n with
        | true => exact ⟨n, Nat.lt_succ_self _, e, by omega⟩
        | false =>
          have h' : cnt s n + (s.testBit n).toNat = cnt s (n + 1) := rfl
          rw [e] at h'
          simp at h'
          omega
  exact key 32 h
theorem Wy.of_ht (g : Nat) (h : HT M hs lv i l) : ∃ cl lf, Wy M hs g lv i l cl lf := by
  induction h with
  | leaf h => exact ⟨_, _, .leaf h⟩
  | @node lv i l c r b s K L h hT ih =>
    by_cases hb : s.testBit (dg g b) = true
    · obtain ⟨cl, lf, hw⟩ := ih _ (dg_lt g b) hb
      exact ⟨_, _, .node h hT hb (by unfold sdx; rw [if_pos hb]) hw⟩
    · obtain ⟨d, h1, h2, h3⟩ := low_bit (Nat.le_trans (by decide) h.two)
      obtain ⟨cl, lf, hw⟩ := ih d h1 h2
      exact ⟨_, _, .node h hT h2 (by unfold sdx; rw [if_neg hb, h3]) hw⟩
theorem Wy.ht (h : Wy M hs g lv i l cl lf) : HT M hs lv i l := by
  cases h with
  | leaf h => exact .leaf h
  | node h hT => exact .node h hT
theorem Wy.sub (h : Wy M hs g lv i l cl lf) : ∀ q ∈ lf, q ∈ l := by
  induction h with
  | leaf h => exact fun _ h => h
  | @node lv i l c r b s K L d cl lf h hT hd hx hw ih =>
    intro q hq
    rw [h.eq]
    exact mem_joinL.2 ⟨d, bit_lt h.s32 hd, ih q hq⟩
theorem Wy.ne (h : Wy M hs g lv i l cl lf) : lf ≠ [] := by
  induction h with
  | leaf h => exact h.ne
  | node _ _ _ _ _ ih => exact ih
theorem Wy.leafF (h : Wy M hs g lv i l cl lf) : ∃ lv' j c r, LeafF M hs lv' j lf c r ∧ cl.getLast? = some (j, 13) := by
  induction h with
  | @leaf lv i l c r h => exact ⟨lv, i, c, r, h, rfl⟩
  | @node lv i l c r b s K L d cl lf h hT hd hx hw ih =>
    obtain ⟨lv', j, c', r', h1, h2⟩ := ih
    refine ⟨lv', j, c', r', h1, ?_⟩
    rw [List.getLast?_cons, h2]
    rfl
theorem Wy.lev (h : Wy M hs g lv i l cl lf) : (∀ x ∈ cl, lv ≤ x.2 ∧ x.2 ≤ 13) ∧ cl.Pairwise fun x y => x.2 < y.2 := by
  induction h with
  | leaf h => exact ⟨fun x hx => by rw [List.mem_singleton] at hx; rw [hx]; exact ⟨h.lv, Nat.le_refl _⟩, List.pairwise_singleton _ _⟩
  | @node lv i l c r b s K L d cl lf h hT hd hx hw ih =>
    refine ⟨fun x hx => ?_, List.pairwise_cons.2 ⟨fun x hx => ?_, ih.2⟩⟩
    · rcases List.mem_cons.1 hx with rfl | hx
      · exact ⟨h.lv, Nat.le_of_lt h.b13⟩
      · have := ih.1 x hx
        have := h.lv
        omega
    · have := (ih.1 x hx).1
      show b < x.2
      omega
theorem Wy.look {p : Pr} (hg : hs p.1 = g) (h : Wy M hs g lv i l cl lf) (hp : p ∈ l) : p ∈ lf := by
  induction h with
  | leaf h => exact hp
  | @node lv i l c r b s K L d cl lf h hT hd hx hw ih =>
    have h1 := h.mem.1 hp
    rw [hg] at h1
    have hb := h.bit h1
    have e : d = dg g b := by
      unfold sdx at hx
      rw [if_pos hb] at hx
      exact cnt_inj hd hb hx
    exact ih (by rw [e]; exact h1)
theorem Wy.has {k : Ky} (hg : hs k = g) (h : Wy M hs g lv i l cl lf) : hasN k lf = true ↔ ∃ q ∈ l, q.1 = k := by
  obtain ⟨_, _, _, _, hl, _⟩ := h.leafF
  rw [hasN_iff hl.so]
  constructor
  · rintro ⟨q, hq, e⟩
    exact ⟨q, h.sub q hq, e⟩
  · rintro ⟨q, hq, e⟩
    exact ⟨q, h.look (by rw [e]; exact hg) hq, e⟩
theorem Wy.split {k : Ky} {near : Pr} {level : Nat} (h : Wy M hs (hs k) lv i l cl lf) (hn : near ∈ lf) (hl : level ≤ pt (hs near.1) (hs k)) :
    ∃ pre post lvj j lj, cl = pre ++ post ∧ Wp M hs k lv i l pre lvj j lj ∧ Wy M hs (hs k) lvj j lj post lf ∧ (∀ x ∈ pre, x.2 < level) ∧ ∃ y rest, post = y :: rest ∧ level ≤ y.2 := by
  have h13 := pt_le (hs near.1) (hs k)
  induction h with
  | leaf h => exact ⟨[], _, _, _, _, rfl, .nil (.leaf h), .leaf h, fun x hx => (by cases hx), _, _, rfl, (by show level ≤ 13; omega)⟩
  | @node lv i l c r b s K L d cl lf h hT hd hx hw ih =>
    by_cases hb : b < level
    · have hnl : near ∈ L d := hw.sub near hn
      have hdd : d = dg (hs k) b := by
        rw [← h.dig d near hnl]
        exact pt_eq (by omega)
      obtain ⟨pre, post, lvj, j, lj, e1, e2, e3, e4, e5⟩ := ih hn
      subst hdd
      have hnl' : near ∈ l := by rw [h.eq]; exact mem_joinL.2 ⟨_, dg_lt _ _, hnl⟩
      refine ⟨(i, b) :: pre, post, lvj, j, lj, by rw [e1]; rfl, .cons h hT hd (fun q hq x hx => ?_) e2, e3, fun x hx => ?_, e5⟩
      · rw [← pt_eq (show x < pt (hs near.1) (hs k) by omega)]
        exact h.agr near hnl' q hq x hx
      · rcases List.mem_cons.1 hx with rfl | hx
        · exact hb
        · exact e4 x hx
    · exact ⟨[], _, _, _, _, rfl, .nil (.node h hT), .node h hT hd hx hw, fun x hx => (by cases hx), _, _, rfl, (by show level ≤ b; omega)⟩
end

end Go.Proofs.YtdddhmipifkepaaGreat

namespace Go.Proofs.YtdddhmipifkepaaGreat
set_option maxRecDepth 100000
open Go.RowKit

set_option maxHeartbeats 800000 in
theorem vside (o : Int) (s b g : Nat) (A1 A2 : Option Addr) (n1 c1 n2 c2 : Nat) (w : World) (hs : s < 4294967296) (hb : b < 13) :
    Calls Tryz.prog 155 #[cagg o (s : Nat) (b : Nat) (.slice A1 n1 c1) (.slice A2 n2 c2), .int .u64 g] w fun e w' => e = .returned (.int .i64 (sdx s g b : Nat)) ∧ Below w.heap.size w w' := by
  have HB := Lib.hid ((Below.refl w.heap.size w).alloc (Nat.le_refl _) (.cells #[.int .u32 o, .int .u32 (s : Nat), .int .u32 (b : Nat), .slice A1 n1 c1, .slice A2 n2 c2] 109))
  have HD := Lib.hid (dg_run g b hb)
  have HH := Lib.hid (has s hs (dg g b) (dg_lt g b))
  have HP := Lib.hid (place s hs (dg g b : Nat))
  have hpl : placeN s ((dg g b : Nat) : Int) = cnt s (dg g b) := by
    unfold placeN
    rw [Int.toNat_natCast, Nat.min_eq_left (Nat.le_of_lt (dg_lt g b))]
  rw [hpl] at HP
  clear hpl
  go_enter Tryz.func155, Tryz.ntmps155
  go_wp2_with fail
  refine (HD.out _).mono ?_
  rintro e w1 ⟨rfl, rfl⟩
  go_wp2_with fail
  refine (HH.out _).mono ?_
  rintro e w1 ⟨rfl, rfl⟩
  cases hbit : s.testBit (dg g b) with
  | true =>
    have HS := Lib.hid (show sdx s g b = cnt s (dg g b) from if_pos hbit)
    go_wp2_with fail
    refine (HP.out _).mono ?_
    rintro e w1 ⟨rfl, gw⟩
    have HG := Lib.hid (HB.out.trans (gw.below.mono HB.out.size))
    clear gw
    go_wp2_with fail
    go_ret
    exact ⟨by rw [HS.out]; rfl, HG.out⟩
  | false =>
    have HS := Lib.hid (show sdx s g b = 0 from if_neg (by rw [hbit]; simp))
    go_wp2_with fail
    go_ret
    exact ⟨by rw [HS.out]; rfl, HB.out⟩

end Go.Proofs.YtdddhmipifkepaaGreat

namespace Go.Proofs.YtdddhmipifkepaaGreat
set_option maxRecDepth 100000
open Go.RowKit

theorem vsound_leaf (o s : Int) (A1 A2 : Option Addr) (n1 c1 n2 c2 : Nat) (w : World) (hn : 0 < n1) :
    Calls Tryz.prog 217 #[cagg o s 13 (.slice A1 n1 c1) (.slice A2 n2 c2)] w fun e w' => e = .returned (.bool true) ∧ Below w.heap.size w w' := by
  have HB := Lib.hid ((Below.refl w.heap.size w).alloc (Nat.le_refl _) (.cells #[.int .u32 o, .int .u32 s, .int .u32 13, .slice A1 n1 c1, .slice A2 n2 c2] 109))
  have hn' : (0 : Int) < (n1 : Int) := by omega
  go_enter Tryz.func217, Tryz.ntmps217
  go_wp2_with fail
  go_ret
  exact ⟨rfl, HB.out⟩
set_option maxHeartbeats 1600000 in
theorem vsound_node (o : Int) (s b : Nat) (A1 A2 : Option Addr) (n1 c1 n2 c2 : Nat) (w : World) (hs : s < 4294967296) (hb : b < 13) (h2 : 2 ≤ n2) (hn : n2 = cnt s 32) :
    Calls Tryz.prog 217 #[cagg o (s : Nat) (b : Nat) (.slice A1 n1 c1) (.slice A2 n2 c2)] w fun e w' => e = .returned (.bool true) ∧ Below w.heap.size w w' := by
  have hb1 : Below w.heap.size w (w.alloc (.cells #[.int .u32 o, .int .u32 (s : Nat), .int .u32 (b : Nat), .slice A1 n1 c1, .slice A2 n2 c2] 109)) := (Below.refl w.heap.size w).alloc (Nat.le_refl _) _
  have q := C5.new w 109 (.int .u32 o) (.int .u32 (s : Nat)) (.int .u32 (b : Nat)) (.slice A1 n1 c1) (.slice A2 n2 c2)
  have HL := Lib.hid (len s hs)
  rw [← hn] at HL
  have hb' : (b : Int) < 13 := by omega
  have h2' : (1 : Int) < (n2 : Int) := by omega
  clear hn
  go_enter Tryz.func217, Tryz.ntmps217
  go_upto_region 2 with fail
  generalize w.alloc (.cells #[.int .u32 o, .int .u32 (s : Nat), .int .u32 (b : Nat), .slice A1 n1 c1, .slice A2 n2 c2] 109) = w1 at q hb1 ⊢
  have HB := Lib.hid hb1
  obtain ⟨z, hz⟩ : ∃ z, z = w.heap.size := ⟨_, rfl⟩
  rw [← hz] at q ⊢
  have HQ := Lib.hid q
  have s0 : ∀ W', Below w1.heap.size w1 W' → W'.cell? ⟨z, 1, none⟩ = some (.int .u32 (s : Nat)) := fun W' h => (HQ.out.below h).c1
  have s1 : ∀ W', Below w1.heap.size w1 W' → W'.cell? ⟨z, 4, none⟩ = some (.slice A2 n2 c2) := fun W' h => (HQ.out.below h).c4
  clear hb1 q hz
  refine wp_region_noPanic ?_
  go_region_held (fun W' => Below w1.heap.size w1 W') (first | with_reducible assumption | exact (Below.refl _ _).drew)
    ((go_at_call 255; refine (HL.out _).mono ?_; rintro e w2 ⟨rfl, gw⟩; have hbn : Below w1.heap.size w1 w2 := (Below.refl _ _).drew.trans (gw.below.mono (Nat.le_refl _))))
  refine NoPanic.normal ?_
  go_wp2_with fail
  go_ret
  exact ⟨rfl, HB.out.trans (hbn.mono HB.out.size)⟩

abbrev land (b bh : Nat) : Value := .agg #[ap b, .pointer (some ⟨bh, 0, none⟩)]
def Sound (c : Hc) : Prop := ∀ (A1 A2 : Option Addr) (c1 c2 : Nat) (w : World), Calls Tryz.prog 217 #[cagg c.owner c.a c.b (.slice A1 c.vals.length c1) (.slice A2 c.kids.length c2)] w fun e w' => e = .returned (.bool true) ∧ Below w.heap.size w w'
theorem LeafF.sound {M : Cells} {hs : Ky → Nat} {lv i : Nat} {l : List Pr} {c : Hc} {r : Nat} (h : LeafF M hs lv i l c r) : Sound c := fun A1 A2 c1 c2 w => by
  rw [h.cb]
  refine vsound_leaf c.owner c.a A1 A2 _ c1 _ c2 w ?_
  rw [h.vals, flatP_length]
  have := List.length_pos_iff.2 h.ne
  omega
theorem NodeF.sound {M : Cells} {hs : Ky → Nat} {lv i : Nat} {l : List Pr} {c : Hc} {r b s : Nat} {K : Nat → Nat} {L : Nat → List Pr} (h : NodeF M hs lv i l c r b s K L) : Sound c := fun A1 A2 c1 c2 w => by
  rw [h.cb, h.ca]
  exact vsound_node c.owner s b A1 A2 _ c1 _ c2 w h.s32 h.b13 (by rw [h.len]; exact h.two) h.len
section
variable {b most : Nat} {M : Cells} {F : Nat → Prop}
set_option maxHeartbeats 1600000 in
theorem vbelow (bh i : Nat) (lv : Int) (c : Hc) (r : Nat) (w : World) (h : Ar w b most M F) (hM : M i = some (c, r)) (hlt : lv < c.b) (hs : Sound c) (hb0 : 0 ≤ c.b ∧ c.b ≤ 13) :
    Calls Tryz.prog 154 #[land b bh, .int .i64 (i : Nat), .int .i64 lv] w fun e w' => ∃ v k, e = .returned (.tuple #[cagg c.owner c.a c.b v k, .bool true]) ∧
      w'.ownsRow w.heap.size 36 3 v c.vals.length (c.vals.flatMap cells3) ∧ w'.ownsRow w.heap.size 3 1 k c.kids.length (nums (ns c.kids)) ∧ Below w.heap.size w w' := by
  have hb1 : Below w.heap.size w ((w.alloc (.cells #[ap b, .pointer (some ⟨bh, 0, none⟩)] 26)).alloc (.cells #[.int .u32 0, .int .u32 0, .int .u32 0, .slice none 0 0, .slice none 0 0] 109)) := ((Below.refl w.heap.size w).alloc (Nat.le_refl _) _).alloc (by simp) _
  have e1 : (w.alloc (.cells #[ap b, .pointer (some ⟨bh, 0, none⟩)] 26)).heap.size = w.heap.size + 1 := by simp
  have q1 := (C2.new w 26 (ap b) (.pointer (some ⟨bh, 0, none⟩))).alloc (.cells #[.int .u32 0, .int .u32 0, .int .u32 0, .slice none 0 0, .slice none 0 0] 109)
  have q2 := C5.new (w.alloc (.cells #[ap b, .pointer (some ⟨bh, 0, none⟩)] 26)) 109 (.int .u32 0) (.int .u32 0) (.int .u32 0) (.slice none 0 0) (.slice none 0 0)
  rw [e1] at q2
  have HA := Lib.hid (h.below hb1)
  have HB := Lib.hid hb1
  have HS := Lib.hid hs
  have HC := Lib.hid (show contC M i = c by unfold contC; rw [hM])
  have HSm := Lib.hid (show (M i).isSome = true by rw [hM]; rfl)
  clear h hb1 e1 hs hM
  go_enter Tryz.func154, Tryz.ntmps154
  go_upto_region 1 with fail
  generalize (w.alloc (.cells #[ap b, .pointer (some ⟨bh, 0, none⟩)] 26)).alloc (.cells #[.int .u32 0, .int .u32 0, .int .u32 0, .slice none 0 0, .slice none 0 0] 109) = w1 at q1 q2 HA HB ⊢
  obtain ⟨z, hz⟩ : ∃ z, z = w.heap.size := ⟨_, rfl⟩
  rw [← hz] at q1 q2 ⊢
  have HZ := Lib.hid hz
  have HQ2 := Lib.hid q2
  obtain ⟨k0, k1, _⟩ := q1.all
  clear q1 q2 hz
  go_wp2_with fail
  refine (vget i w1 HA.out).mono ?_
  rintro e w2 ⟨v, k, rfl, hv, hk, hb2⟩
  rw [HC.out] at hv hk
  rw [HC.out, HSm.out]
  obtain ⟨A1, c1, rfl, _⟩ := (Rd.of_own hv).form
  obtain ⟨A2, c2, rfl, _⟩ := (Rd.of_own hk).form
  have HV := Lib.hid hv
  have HK := Lib.hid hk
  have HB2 := Lib.hid hb2
  have q3 := HQ2.out.below hb2
  have hlt' : ¬ c.b ≤ lv := by omega
  have hzl := q3.lt
  clear hv hk hb2 k0 k1
  go_upto_region 2 with fail
  obtain ⟨w3, hw3⟩ : ∃ w3, w3 = w2.alloc (.cells #[.int .u32 c.owner, .int .u32 c.a, .int .u32 c.b, .slice A1 c.vals.length c1, .slice A2 c.kids.length c2] 109) := ⟨_, rfl⟩
  have q4 : C5 w3 w2.heap.size 109 (.int .u32 c.owner) (.int .u32 c.a) (.int .u32 c.b) (.slice A1 c.vals.length c1) (.slice A2 c.kids.length c2) := by rw [hw3]; exact C5.new _ _ _ _ _ _ _
  have hb3 : Below w2.heap.size w2 w3 := by rw [hw3]; exact (Below.refl _ w2).alloc (Nat.le_refl _) _
  rw [← hw3]
  obtain ⟨z2, hz2⟩ : ∃ z2, z2 = w2.heap.size := ⟨_, rfl⟩
  rw [← hz2] at q4 ⊢
  have HZ2 := Lib.hid hz2
  have HB3 := Lib.hid hb3
  have HQ3 := Lib.hid (q3.below hb3)
  have HQ4 := Lib.hid q4
  obtain ⟨m0, m1, m2, m3, m4, _⟩ := q4.all
  clear q3 q4 hb3 hw3 hz2 hzl
  go_wp2_with fail
  refine (HS.out _ _ _ _ _).mono ?_
  rintro e w4 ⟨rfl, hb4⟩
  have HB4 := Lib.hid hb4
  obtain ⟨p0, p1, p2, p3, p4, _⟩ := (HQ4.out.below hb4).all
  obtain ⟨r0, r1, r2, r3, r4, f0, f1, f2, f3, f4⟩ := (HQ3.out.below hb4).all
  clear hb4 m0 m1 m2 m3 m4
  go_wp2_with fail
  have hkp : Kp (fun q => q = z + 1) w4 (((((w4.setCell ⟨z + 1, 0, none⟩ (.int .u32 c.owner)).setCell ⟨z + 1, 1, none⟩ (.int .u32 c.a)).setCell ⟨z + 1, 2, none⟩ (.int .u32 c.b)).setCell ⟨z + 1, 3, none⟩ (.slice A1 c.vals.length c1)).setCell ⟨z + 1, 4, none⟩ (.slice A2 c.kids.length c2)) :=
    (((((Kp.refl (fun q => q = z + 1) w4).setCell (.inl rfl) _).setCell (.inl rfl) _).setCell (.inl rfl) _).setCell (.inl rfl) _).setCell (.inl rfl) _
  have hb24 : Below w2.heap.size w2 w4 := HB3.out.trans (HB4.out.mono HB3.out.size)
  have hz1 := HQ2.out.lt
  have own : ∀ (t sz n : Nat) (u : Value) (xs : List Value), w2.ownsRow w1.heap.size t sz u n xs → (((((w4.setCell ⟨z + 1, 0, none⟩ (.int .u32 c.owner)).setCell ⟨z + 1, 1, none⟩ (.int .u32 c.a)).setCell ⟨z + 1, 2, none⟩ (.int .u32 c.b)).setCell ⟨z + 1, 3, none⟩ (.slice A1 c.vals.length c1)).setCell ⟨z + 1, 4, none⟩ (.slice A2 c.kids.length c2)).ownsRow w.heap.size t sz u n xs := fun t sz n u xs ho =>
    own_less (hkp.own ((Kp.of_below hb24 (fun _ => False)).own ho (fun _ _ h => h)) (fun q hq e => by have := (own_blk ho q hq).1; omega)) HB.out.size
  refine bodyPost_ret (v := .tuple #[cagg c.owner c.a c.b (.slice A1 c.vals.length c1) (.slice A2 c.kids.length c2), .bool true]) (by simp [results, Tryz.results154, go_sem, r0, r1, r2, r3, r4]) rfl ⟨_, _, rfl, own _ _ _ _ _ HV.out, own _ _ _ _ _ HK.out, ?_⟩
  refine (((Kp.of_below HB.out (fun _ => False)).trans (Kp.of_below HB2.out (fun _ => False)) (fun _ h => h.elim)).trans ((Kp.of_below hb24 (fun q => q = z + 1)).trans hkp (fun q h => .inl h)) (fun q e => .inr ?_)).below (fun _ h => h.elim)
  have := HZ.out
  omega
end

end Go.Proofs.YtdddhmipifkepaaGreat

namespace Go.Proofs.YtdddhmipifkepaaGreat
set_option maxRecDepth 100000
open Go.RowKit

structure Wv where
  b : Nat
  bh : Nat
  ow : Int
  g : Nat
  root : Nat
  A4 : Option Addr
  n4 : Nat
  c4 : Nat
  A5 : Option Addr
  n5 : Nat
  c5 : Nat
  A6 : Option Addr
  n6 : Nat
  c6 : Nat
  at' : Nat
  has : Bool
abbrev wagg (x : Wv) : Value := .agg #[ap x.b, .pointer (some ⟨x.bh, 0, none⟩), .int .u32 x.ow, .int .u64 x.g, .int .i64 x.root, .slice x.A4 x.n4 x.c4, .slice x.A5 x.n5 x.c5, .slice x.A6 x.n6 x.c6, .int .i64 x.at', .bool x.has]
abbrev wcells (x : Wv) : Array Value := #[ap x.b, .pointer (some ⟨x.bh, 0, none⟩), .int .u32 x.ow, .int .u64 x.g, .int .i64 x.root, .slice x.A4 x.n4 x.c4, .slice x.A5 x.n5 x.c5, .slice x.A6 x.n6 x.c6, .int .i64 x.at', .bool x.has]
def WC (w : World) (z : Nat) (x : Wv) : Prop := w.heap[z]? = some (.cells (wcells x) 169 (0, 0))
section
variable {w w' : World} {z : Nat} {x : Wv}
theorem WC.at {i : Nat} {u : Value} (h : WC w z x) (hi : (wcells x)[i]? = some u) : w.cell? ⟨z, i, none⟩ = some u := by
  have := cell_of_row w z i _ _ (0, 0) h
  rw [this]
  exact hi
theorem WC.lt (h : WC w z x) : z < w.heap.size := (Array.getElem?_eq_some_iff.1 h).1
theorem WC.below (h : WC w z x) (hb : Below w.heap.size w w') : WC w' z x := (hb.block z h.lt).trans h
theorem WC.kp {F : Nat → Prop} (h : WC w z x) (hk : Kp F w w') (hF : ¬ F z) : WC w' z x := hk.at h hF
theorem WC.new (w : World) (x : Wv) : WC (w.alloc (.cells (wcells x) 169)) w.heap.size x := heap_alloc_new w _
theorem WC.alloc (h : WC w z x) (o : Obj) : WC (w.alloc o) z x := (Below.heap_alloc w o z h.lt).trans h
end
section
set_option maxHeartbeats 1600000 in
theorem vpass_zero (x : Wv) (i : Nat) (f : FuncId) (caps : Array Value) (R : Value → World → Prop) (w : World) (hfe : ∀ (args : Array Value) (W : World), (callFunc f args).run Tryz.prog W = .ok (.enter f args) W)
    (hc : ∀ W, Below w.heap.size w W → Calls Tryz.prog f (#[.int .i64 (i : Nat)] ++ caps) W fun e W' => ∃ v, e = .returned v ∧ R v W') :
    Calls Tryz.prog 258 #[wagg x, .int .i64 (i : Nat), .int .i64 0, .func (.func f) #[] caps] w fun e w' => ∃ v, e = .returned v ∧ R v w' := by
  have hb : Below w.heap.size w (((w.alloc (.cells (wcells x) 169)).alloc (.cells #[.int .i64 0] 3)).alloc (.cells #[.func (.func f) #[] caps] 256)) := (((Below.refl _ w).alloc (Nat.le_refl _) _).alloc (by simp) _).alloc (by simp; omega) _
  have HC := Lib.hid (hc _ hb)
  clear hc hb
  go_enter Tryz.func258, Tryz.ntmps258
  go_wp2_with fail
  refine HC.out.mono ?_
  rintro e w2 ⟨v, rfl, hR⟩
  have HR := Lib.hid hR
  clear hR
  go_wp2_with fail
  go_ret
  exact ⟨v, rfl, HR.out⟩
set_option maxHeartbeats 1600000 in
theorem vpass_succ (x : Wv) (i n : Nat) (f : FuncId) (caps : Array Value) (R : Value → World → Prop) (w : World) (hn : 0 < n)
    (hc : ∀ W z4 z6 z7, Below w.heap.size w W → w.heap.size ≤ z4 → w.heap.size ≤ z6 → w.heap.size ≤ z7 → WC W z4 x → C1 W z6 3 (.int .i64 (n : Nat)) → C1 W z7 256 (.func (.func f) #[] caps) →
      Calls Tryz.prog 227 #[ap x.b, .int .i64 (i : Nat), .int .u32 x.ow, .func (.func 280) #[] #[.pointer (some ⟨z4, 0, none⟩), .pointer (some ⟨z6, 0, none⟩), .pointer (some ⟨z7, 0, none⟩)]] W fun e W' => ∃ v, e = .returned v ∧ R v W') :
    Calls Tryz.prog 258 #[wagg x, .int .i64 (i : Nat), .int .i64 (n : Nat), .func (.func f) #[] caps] w fun e w' => ∃ v, e = .returned v ∧ R v w' := by
  have e1 : (w.alloc (.cells (wcells x) 169)).heap.size = w.heap.size + 1 := by simp
  have e2 : ((w.alloc (.cells (wcells x) 169)).alloc (.cells #[.int .i64 (n : Nat)] 3)).heap.size = w.heap.size + 1 + 1 := by simp
  have hb : Below w.heap.size w (((w.alloc (.cells (wcells x) 169)).alloc (.cells #[.int .i64 (n : Nat)] 3)).alloc (.cells #[.func (.func f) #[] caps] 256)) := (((Below.refl _ w).alloc (Nat.le_refl _) _).alloc (by simp) _).alloc (by simp; omega) _
  have q1 := ((WC.new w x).alloc (.cells #[.int .i64 (n : Nat)] 3)).alloc (.cells #[.func (.func f) #[] caps] 256)
  have q2 := (C1.new (w.alloc (.cells (wcells x) 169)) 3 (.int .i64 (n : Nat))).alloc (.cells #[.func (.func f) #[] caps] 256)
  have q3 := C1.new ((w.alloc (.cells (wcells x) 169)).alloc (.cells #[.int .i64 (n : Nat)] 3)) 256 (.func (.func f) #[] caps)
  rw [e1] at q2
  rw [e2] at q3
  have HC := Lib.hid (hc _ w.heap.size (w.heap.size + 1) (w.heap.size + 1 + 1) hb (Nat.le_refl _) (by omega) (by omega) q1 q2 q3)
  have hn' : ¬ (n : Int) = 0 := by omega
  clear hc hb e1 e2 q1 q2 q3
  go_enter Tryz.func258, Tryz.ntmps258
  go_wp2_with fail
  refine HC.out.mono ?_
  rintro e w2 ⟨v, rfl, hR⟩
  have HR := Lib.hid hR
  clear hR
  go_wp2_with fail
  go_ret
  exact ⟨v, rfl, HR.out⟩
end

end Go.Proofs.YtdddhmipifkepaaGreat

namespace Go.Proofs.YtdddhmipifkepaaGreat
set_option maxRecDepth 100000
open Go.RowKit

theorem WC.all {w : World} {z : Nat} {x : Wv} (h : WC w z x) : w.cell? ⟨z, 0, none⟩ = some (ap x.b) ∧ w.cell? ⟨z, 1, none⟩ = some (.pointer (some ⟨x.bh, 0, none⟩)) ∧ w.cell? ⟨z, 2, none⟩ = some (.int .u32 x.ow) ∧ w.cell? ⟨z, 3, none⟩ = some (.int .u64 x.g) ∧ w.cell? ⟨z, 4, none⟩ = some (.int .i64 x.root) ∧ w.cell? ⟨z, 5, none⟩ = some (.slice x.A4 x.n4 x.c4) ∧ w.cell? ⟨z, 6, none⟩ = some (.slice x.A5 x.n5 x.c5) ∧ w.cell? ⟨z, 7, none⟩ = some (.slice x.A6 x.n6 x.c6) ∧ w.cell? ⟨z, 8, none⟩ = some (.int .i64 x.at') ∧ w.cell? ⟨z, 9, none⟩ = some (.bool x.has) :=
  ⟨h.at rfl, h.at rfl, h.at rfl, h.at rfl, h.at rfl, h.at rfl, h.at rfl, h.at rfl, h.at rfl, h.at rfl⟩
section
set_option maxHeartbeats 1600000 in
theorem vdo_no (x : Wv) (n need : Nat) (fv : Value) (Q : World → Prop) (w : World)
    (hB : ∀ W z vs, Below w.heap.size w W → w.heap.size ≤ z → WC W z x → Rd W vs 1 (nums (ns [x.root])) → (∀ q, vs.ownBlock = some q → z < q ∧ q < W.heap.size) →
      Calls Tryz.prog 235 #[ap x.b, .int .u32 x.ow, .int .i64 (need : Nat), vs] W fun e W' => e = .returned (.bool false) ∧ Q W') :
    Calls Tryz.prog 224 #[wagg x, .int .i64 (n : Nat), .int .i64 (need : Nat), fv] w fun e w' => e = .returned (.tuple #[.int .i64 0, .int .i64 5]) ∧ Q w' := by
  have e1 : (w.alloc (.cells (wcells x) 169)).heap.size = w.heap.size + 1 := by simp
  have hb : Below w.heap.size w (w.alloc (.cells (wcells x) 169)) := (Below.refl _ w).alloc (Nat.le_refl _) _
  have hrd := Rd.one (w.alloc (.cells (wcells x) 169)) (.int .i64 (x.root : Int)) 3
  rw [e1] at hrd
  have HC := Lib.hid (hB _ w.heap.size _ (hb.alloc (by rw [e1]; exact Nat.le_succ _) (.cells #[.int .i64 (x.root : Int)] 3)) (Nat.le_refl _) ((WC.new w x).alloc _) hrd (fun q hq => by
    simp only [Value.ownBlock, Option.some.injEq] at hq
    subst hq
    exact ⟨Nat.lt_succ_self _, by simp⟩))
  clear hB hb hrd e1
  go_enter Tryz.func224, Tryz.ntmps224
  go_wp2_with fail
  refine HC.out.mono ?_
  rintro e w2 ⟨rfl, hq⟩
  have HQ := Lib.hid hq
  clear hq
  go_wp2_with fail
  exact bodyPost_ret (v := .tuple #[.int .i64 0, .int .i64 5]) (by simp [results, Tryz.results224, go_sem]) rfl ⟨rfl, HQ.out⟩
set_option maxHeartbeats 1600000 in
theorem vdo_yes (x : Wv) (n need : Nat) (f : FuncId) (caps : Array Value) (Q : World → Prop) (R : Value → World → Prop) (w : World)
    (hB : ∀ W z vs, Below w.heap.size w W → w.heap.size ≤ z → WC W z x → Rd W vs 1 (nums (ns [x.root])) → (∀ q, vs.ownBlock = some q → z < q ∧ q < W.heap.size) →
      Calls Tryz.prog 235 #[ap x.b, .int .u32 x.ow, .int .i64 (need : Nat), vs] W fun e W' => e = .returned (.bool true) ∧ WC W' z x ∧ Q W')
    (hP : ∀ W, Q W → Calls Tryz.prog 258 #[wagg x, .int .i64 (x.root : Nat), .int .i64 (n : Nat), .func (.func f) #[] caps] W fun e W' => ∃ v, e = .returned v ∧ R v W') :
    Calls Tryz.prog 224 #[wagg x, .int .i64 (n : Nat), .int .i64 (need : Nat), .func (.func f) #[] caps] w fun e w' => ∃ v, e = .returned (.tuple #[v, .int .i64 0]) ∧ R v w' := by
  have e1 : (w.alloc (.cells (wcells x) 169)).heap.size = w.heap.size + 1 := by simp
  have hb : Below w.heap.size w (w.alloc (.cells (wcells x) 169)) := (Below.refl _ w).alloc (Nat.le_refl _) _
  have hrd := Rd.one (w.alloc (.cells (wcells x) 169)) (.int .i64 (x.root : Int)) 3
  rw [e1] at hrd
  have HC := Lib.hid (hB _ w.heap.size _ (hb.alloc (by rw [e1]; exact Nat.le_succ _) (.cells #[.int .i64 (x.root : Int)] 3)) (Nat.le_refl _) ((WC.new w x).alloc _) hrd (fun q hq => by
    simp only [Value.ownBlock, Option.some.injEq] at hq
    subst hq
    exact ⟨Nat.lt_succ_self _, by simp⟩))
  have HP := Lib.hid hP
  clear hB hb hrd e1 hP
  go_enter Tryz.func224, Tryz.ntmps224
  go_wp2_with fail
  refine HC.out.mono ?_
  rintro e w2 ⟨rfl, hw, hq⟩
  have HQ := Lib.hid hq
  obtain ⟨m0, m1, m2, m3, m4, m5, m6, m7, m8, m9⟩ := hw.all
  clear hq hw
  go_wp2_with fail
  refine (HP.out _ HQ.out).mono ?_
  rintro e w3 ⟨v, rfl, hR⟩
  have HR := Lib.hid hR
  clear hR
  go_wp2_with fail
  exact bodyPost_ret (v := .tuple #[v, .int .i64 0]) (by simp [results, Tryz.results224, go_sem]) rfl ⟨v, rfl, HR.out⟩
end

end Go.Proofs.YtdddhmipifkepaaGreat

namespace Go.Proofs.YtdddhmipifkepaaGreat
set_option maxRecDepth 100000
open Go.RowKit
section
set_option maxHeartbeats 1600000 in
theorem vreplace (x : Wv) (n k made g o : Nat) (fv : Value) (R : Value → Value → World → Prop) (w : World) (hA : x.A4 = some ⟨g, o, none⟩) (hn : n ≤ x.n4) (hc : x.n4 ≤ x.c4) (hk : k ≤ 1000000) (hm : made ≤ 1000000)
    (hF : ∀ W, Below w.heap.size w W → Calls Tryz.prog 223 #[ap x.b, .int .u32 x.ow, .slice (some ⟨g, o, none⟩) n x.c4] W fun e W' => e = .returned (.int .i64 (k : Nat)) ∧ Below W.heap.size W W')
    (hD : ∀ W, Below w.heap.size w W → Calls Tryz.prog 224 #[wagg x, .int .i64 (n : Nat), .int .i64 ((k : Int) + (made : Int)), fv] W fun e W' => ∃ a c, e = .returned (.tuple #[a, c]) ∧ R a c W') :
    Calls Tryz.prog 157 #[wagg x, .int .i64 (n : Nat), .int .i64 (made : Nat), fv] w fun e w' => ∃ a c, e = .returned (.tuple #[a, c]) ∧ R a c w' := by
  have hb : Below w.heap.size w (w.alloc (.cells (wcells x) 169)).drew := ((Below.refl _ w).alloc (Nat.le_refl _) _).drew
  have HB := Lib.hid hb
  have HWX := Lib.hid ((WC.new w x).below ((Below.refl _ (w.alloc (.cells (wcells x) 169))).drew))
  have HFX := Lib.hid hF
  have HDX := Lib.hid hD
  have m0 : ∀ W', WC W' w.heap.size x → W'.cell? ⟨w.heap.size, 0, none⟩ = some (ap x.b) := fun W' h => h.at rfl
  have m2 : ∀ W', WC W' w.heap.size x → W'.cell? ⟨w.heap.size, 2, none⟩ = some (.int .u32 x.ow) := fun W' h => h.at rfl
  have m5 : ∀ W', WC W' w.heap.size x → W'.cell? ⟨w.heap.size, 5, none⟩ = some (.slice (some ⟨g, o, none⟩) x.n4 x.c4) := fun W' h => hA ▸ h.at rfl
  clear hF hD hb hA
  go_enter Tryz.func157, Tryz.ntmps157
  go_wp2_with fail
  have s1 : IntKind.i64.wrap ((k : Int) + (made : Int)) = (k : Int) + (made : Int) := IntWalk.i64_in _ (by omega)
  have s2 : (n : Int) ≤ (x.c4 : Int) := by omega
  have s3 : (0 : Int) ≤ (n : Int) := by omega
  refine wp_region_noPanic ?_
  go_region_held (fun W' => WC W' w.heap.size x)
    (first | with_reducible assumption | with_reducible exact HWX.out | with_reducible exact HW2.out)
    ((go_at_call 223; refine (HFX.out _ HB.out).mono ?_; rintro e w2 ⟨rfl, hb2⟩; have HW2 := Lib.hid (HWX.out.below hb2); have HB2 := Lib.hid (HB.out.trans (hb2.mono HB.out.size)); clear hb2))
  refine NoPanic.normal ?_
  obtain ⟨q0, q1, q2, q3, q4, q5, q6, q7, q8, q9⟩ := HW2.out.all
  clear m0 m2 m5 s1
  go_wp2_with fail
  refine (HDX.out _ HB2.out).mono ?_
  rintro e w3 ⟨a, c, rfl, hR⟩
  have HR := Lib.hid hR
  clear hR
  go_wp2_with fail
  exact bodyPost_ret (v := .tuple #[a, c]) (by simp [results, Tryz.results157, go_sem]) rfl ⟨a, c, rfl, HR.out⟩
end

end Go.Proofs.YtdddhmipifkepaaGreat

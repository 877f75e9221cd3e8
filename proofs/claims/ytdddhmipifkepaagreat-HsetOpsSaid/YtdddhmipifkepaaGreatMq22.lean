/- Several texts in one. -/
import Derived.Test.YtdddhmipifkepaaGreatMq21
import Derived.Test.YtdddhmipifkepaaGreatMq01
import Derived.IntWalk
import Derived.RangeFuncCalls
import Derived.Shelf.RegionOpen
import Derived.OwnWalkIn
import Derived.TacticsInMore
import Derived.LoopNIn
import Derived.LoopIn
import Derived.Test.YtdddhmipifkepaaGreatMq03
import Derived.Test.YtdddhmipifkepaaGreatMq09
import Derived.Test.YtdddhmipifkepaaGreatMq16
namespace Go.Proofs.YtdddhmipifkepaaGreat
set_option maxRecDepth 100000
open Go.RowKit Go.Shelf
attribute [local go_sem] Oper.semAt_some
abbrev pagg (p : Pr) : Value := .agg #[.int .u8 p.1.1, .int .i64 p.1.2.1, .string p.1.2.2, .int .u8 p.2.1, .int .i64 p.2.2.1, .string p.2.2.2]
structure Rounds (n0 b most : Nat) (M0 : Cells) (root lp : Nat) (J Jx : Nat → World → Prop) (xs : List Pr) : Prop where
  keep : ∀ i A B, J i A → Below A.heap.size A B → J i B
  step : ∀ i x A, xs[i]? = some x → J i A → YieldAt Fence.wide 0 Tryz.prog lp #[pagg x] A fun e B => (e = .returned (.bool true) ∧ J (i + 1) B ∧ Kv n0 b most M0 root A B) ∨ (e = .returned (.bool false) ∧ Jx (i + 1) B ∧ Kv n0 b most M0 root A B)
def Vis (n0 b most : Nat) (M0 : Cells) (root : Nat) (J Jx : Nat → World → Prop) (xs : List Pr) (m : Nat) (A : World) (e : Ending) (B : World) : Prop :=
  (e = .returned (.bool true) ∧ J m B ∧ Kv n0 b most M0 root A B) ∨ (e = .returned (.bool false) ∧ Kv n0 b most M0 root A B ∧ ∃ i, i ≤ xs.length ∧ Jx i B)
section
variable {n0 b bh most root lp : Nat} {M0 : Cells} {J Jx : Nat → World → Prop} {xs : List Pr}
theorem own_base {w : World} {base base' t sz n : Nat} {v : Value} {xs : List Value} (h : w.ownsRow base t sz v n xs) (hb : base' ≤ base) : w.ownsRow base' t sz v n xs := by
  refine ⟨h.1, ?_⟩
  rcases h.2 with h | ⟨g, cap, cur, h1, h2, h3⟩
  · exact .inl h
  · exact .inr ⟨g, cap, cur, h1, Nat.le_trans hb h2, h3⟩
set_option maxHeartbeats 3000000 in
theorem vvisit_cell (R : Rounds n0 b most M0 root lp J Jx xs) (hx : xs.length ≤ 4096) (i r n : Nat) (lev : Int) (c : Hc) (lf : List Pr) (nk : Nat → Nat) (A : World) (hM : M0 i = some (c, r)) (hlt : lev < c.b) (hs : Sound c) (hb0 : 0 ≤ c.b ∧ c.b ≤ 13) (hv : c.vals = flatP lf) (hk32 : c.kids.length ≤ 32)
    (hsub : ∀ M, Pres M0 M root → Pres M0 M i) (hxs : ∀ j p, lf[j]? = some p → xs[n + j]? = some p) (hlf : n + lf.length ≤ xs.length) (hnk : nk 0 = n + lf.length)
    (hkid : ∀ m k, c.kids[m]? = some k → ∀ B, Okay b most M0 root B → n0 ≤ B.heap.size → J (nk m) B → Calls Tryz.prog 98 #[land b bh, .int .i64 (k : Nat), .int .i64 c.b, .func (.yield lp) #[] #[]] B (Vis n0 b most M0 root J Jx xs (nk (m + 1)) B))
    (ok : Okay b most M0 root A) (h0 : n0 ≤ A.heap.size) (hJ : J n A) :
    Calls Tryz.prog 98 #[land b bh, .int .i64 (i : Nat), .int .i64 lev, .func (.yield lp) #[] #[]] A (Vis n0 b most M0 root J Jx xs (nk c.kids.length) A) := by
  obtain ⟨M, F, hAr, hPr⟩ := ok
  obtain ⟨r', hMi⟩ := hsub M hPr i c r .refl hM
  have hbox : Below A.heap.size A (A.alloc (.cells #[ap b, .pointer (some ⟨bh, 0, none⟩)] 26)) := (Below.refl _ A).alloc (Nat.le_refl _) _
  have q4 := C2.new A 26 (ap b) (.pointer (some ⟨bh, 0, none⟩))
  have HBE := Lib.hid (vbelow bh i lev c r' _ (hAr.below hbox) hMi hlt hs hb0)
  have x0 := q4.c0
  have x1 := q4.c1
  have HQ := Lib.hid q4
  have HB := Lib.hid hbox
  have HOK := Lib.hid (show Okay b most M0 root A from ⟨M, F, hAr, hPr⟩)
  have HXX := Lib.hid (And.intro hx (And.intro hv (And.intro hk32 (And.intro hxs (And.intro hlf (And.intro hnk (And.intro hkid (And.intro h0 hJ))))))))
  have HR := Lib.hid R
  have HB0 := Lib.hid hb0
  clear hM hlt hs hv hk32 hsub hxs hlf hnk hkid h0 hJ hAr hPr hMi hbox q4 hx R hb0
  refine (callsIn_wide (n := 1)).1 ?_
  refine callsIn_of_wp Tryz.func98 rfl trivial ?_ rfl
  simp only [Tryz.ntmps98, List.size_toArray, List.length_cons, List.length_nil, Nat.reduceAdd, Nat.reduceSub, Array.replicate_succ, Array.replicate_zero, List.push_toArray, List.append_toArray, List.nil_append, List.cons_append]
  gi_wp2
  refine ⟨trivial, (callsIn_wide.2 HBE.out).mono ?_⟩
  rintro e w2 ⟨V, K, rfl, ov, ok2, hb2⟩
  have HV := Lib.hid (And.intro ov (And.intro ok2 hb2))
  clear ov ok2 hb2 x0 x1
  obtain ⟨AV, cV, rfl, _⟩ := (Rd.of_own HV.out.1).form
  obtain ⟨AK, cK, rfl, _⟩ := (Rd.of_own HV.out.2.1).form
  gi_wp2
  have hbn : Below A.heap.size A (w2.alloc (.cells #[.int .u32 c.owner, .int .u32 c.a, .int .u32 c.b, .slice AV c.vals.length cV, .slice AK c.kids.length cK] 109)) := (HB.out.trans (HV.out.2.2.mono HB.out.size)).alloc (Nat.le_trans HB.out.size HV.out.2.2.size) _
  have hs0 := HB.out.size
  have hs1 := HV.out.2.2.size
  have hks : Kp (fun _ => False) w2 (w2.alloc (.cells #[.int .u32 c.owner, .int .u32 c.a, .int .u32 c.b, .slice AV c.vals.length cV, .slice AK c.kids.length cK] 109)) := (Kp.refl _ w2).alloc _
  have vs : VS n0 b bh most A.heap.size w2.heap.size c (.slice AV c.vals.length cV) (.slice AK c.kids.length cK) (w2.alloc (.cells #[.int .u32 c.owner, .int .u32 c.a, .int .u32 c.b, .slice AV c.vals.length cV, .slice AK c.kids.length cK] 109)) := by
    have hn0 := HXX.out.2.2.2.2.2.2.2.1
    have hsz : (A.alloc (.cells #[ap b, .pointer (some ⟨bh, 0, none⟩)] 26)).heap.size = A.heap.size + 1 := by simp
    refine ⟨(HQ.out.below HV.out.2.2).alloc _, C5.new _ _ _ _ _ _ _, ⟨own_base (hks.own HV.out.1 (fun _ _ h => h)) (by omega), fun q hq => HOK.out.new hbn (by have := (own_blk HV.out.1 q hq).1; omega)⟩, ⟨own_base (hks.own HV.out.2.1 (fun _ _ h => h)) (by omega), fun q hq => HOK.out.new hbn (by have := (own_blk HV.out.2.1 q hq).1; omega)⟩, ⟨by omega, by omega⟩, HOK.out.new hbn (Nat.le_refl _), HOK.out.new hbn (by omega)⟩
  have hj := HR.out.keep _ _ _ HXX.out.2.2.2.2.2.2.2.2 hbn
  have hkv : Kv n0 b most M0 root A (w2.alloc (.cells #[.int .u32 c.owner, .int .u32 c.a, .int .u32 c.b, .slice AV c.vals.length cV, .slice AK c.kids.length cK] 109)) := Kv.below hbn
  have hsA : n0 ≤ (w2.alloc (.cells #[.int .u32 c.owner, .int .u32 c.a, .int .u32 c.b, .slice AV c.vals.length cV, .slice AK c.kids.length cK] 109)).heap.size := Nat.le_trans HXX.out.2.2.2.2.2.2.2.1 hbn.size
  generalize w2.alloc (.cells #[.int .u32 c.owner, .int .u32 c.a, .int .u32 c.b, .slice AV c.vals.length cV, .slice AK c.kids.length cK] 109) = w3 at vs hj hkv hsA hbn hks ⊢
  generalize hz9 : w2.heap.size = z9 at vs ⊢
  generalize hz4 : A.heap.size = z4 at vs ⊢
  have VS3 := Lib.hid (And.intro vs (And.intro hj (And.intro hkv hsA)))
  have HVL := Lib.hid (show c.vals.length = 2 * lf.length by rw [HXX.out.2.1, flatP_length])
  have hlen : lf.length ≤ 4096 := by have := HXX.out.1; have := HXX.out.2.2.2.2.1; omega
  clear hbn hks hs0 hs1 vs hj hkv hsA hz9 hz4 HV HBE HQ HB
  gi_loopw [11] (fun s11 wr => ∃ p m : Nat, s11 = .int .i64 (p : Int) ∧ p = 2 * m ∧ m ≤ lf.length ∧ J (n + m) wr ∧ VS n0 b bh most z4 z9 c (.slice AV c.vals.length cV) (.slice AK c.kids.length cK) wr ∧ Kv n0 b most M0 root A wr) (fun s11 _ => 2 * lf.length + 2 - (intOf s11).toNat)
  case atStart => exact ⟨0, 0, rfl, rfl, Nat.zero_le _, VS3.out.2.1, VS3.out.1, VS3.out.2.2.1⟩
  case round =>
    obtain ⟨p, m, rfl, hpm, hm, hJ, hvs, hkv⟩ := hrel
    obtain ⟨x0, x1, x2, x3, x4, f0, f1, f2, f3, f4⟩ := hvs.cb.all
    have hw1 : IntKind.i64.wrap ((p : Int) + 1) = (p : Int) + 1 := IntWalk.i64_in _ (by omega)
    have hw2 : IntKind.i64.wrap ((p : Int) + 2) = (p : Int) + 2 := IntWalk.i64_in _ (by omega)
    have HVS := Lib.hid (And.intro hvs (And.intro hJ hkv))
    by_cases hml : m < lf.length
    · have hlt : (p : Int) + 1 < (c.vals.length : Int) := by have := HVL.out; omega
      have hp0 : (0 : Int) ≤ (p : Int) := by omega
      have hp1 : (0 : Int) ≤ (p : Int) + 1 := by omega
      have hlt2 : (p : Int) < (c.vals.length : Int) := by omega
      obtain ⟨pr, hpr⟩ : ∃ pr, lf[m]? = some pr := ⟨_, List.getElem?_eq_getElem hml⟩
      have hfl := flatP_at hpr
      rw [← hpm, ← HXX.out.2.1] at hfl
      obtain ⟨a0, a1, a2⟩ := flat3_at hfl.1
      obtain ⟨a3, a4, a5⟩ := flat3_at hfl.2
      obtain ⟨gV, cV', eV, _, _, _⟩ := own_at hvs.vr.1 a0
      simp only [Value.slice.injEq, true_and] at eV
      obtain ⟨rfl, rfl⟩ := eV
      have cel : ∀ W, VS n0 b bh most z4 z9 c (.slice (some ⟨gV, 0, none⟩) c.vals.length cV) (.slice AK c.kids.length cK) W → ∀ {j : Nat} {u : Value}, (c.vals.flatMap cells3)[j]? = some u → W.cell? ⟨gV, j, none⟩ = some u := fun W h j u hu => by
        obtain ⟨g', c', e', _, k', _⟩ := own_at h.vr.1 hu
        simp only [Value.slice.injEq, true_and, Option.some.injEq, Addr.mk.injEq, and_true] at e'
        rw [← e'.1] at k'
        exact k'
      have hY := HR.out.step (n + m) pr wr.drew (HXX.out.2.2.2.1 m pr hpr) (HR.out.keep _ _ _ hJ (Below.refl _ wr).drew)
      have HP := Lib.hid (And.intro hpm (And.intro hm (And.intro hml hpr)))
      have HY := Lib.hid hY
      have HA := Lib.hid (And.intro a0 (And.intro a1 (And.intro a2 (And.intro a3 (And.intro a4 a5)))))
      clear hfl a0 a1 a2 a3 a4 a5 hpm hm hml hpr hY hJ hvs hkv
      gi_wp2
      clear x0 x1 x2 x3 x4 f0 f1 f2 f3 f4
      have y3 : ∀ W, VS n0 b bh most z4 z9 c (.slice (some ⟨gV, 0, none⟩) c.vals.length cV) (.slice AK c.kids.length cK) W → W.cell? ⟨z9, 3, none⟩ = some (.slice (some ⟨gV, 0, none⟩) c.vals.length cV) := fun W h => h.cb.c3
      have n0' : ∀ W, VS n0 b bh most z4 z9 c (.slice (some ⟨gV, 0, none⟩) c.vals.length cV) (.slice AK c.kids.length cK) W → W.cell? ⟨gV, p * 3, none⟩ = some (.int .u8 pr.1.1) := fun W h => cel W h HA.out.1
      have n1' : ∀ W, VS n0 b bh most z4 z9 c (.slice (some ⟨gV, 0, none⟩) c.vals.length cV) (.slice AK c.kids.length cK) W → W.cell? ⟨gV, p * 3 + 1, none⟩ = some (.int .i64 pr.1.2.1) := fun W h => cel W h HA.out.2.1
      have n2' : ∀ W, VS n0 b bh most z4 z9 c (.slice (some ⟨gV, 0, none⟩) c.vals.length cV) (.slice AK c.kids.length cK) W → W.cell? ⟨gV, p * 3 + 2, none⟩ = some (.string pr.1.2.2) := fun W h => cel W h HA.out.2.2.1
      have n3' : ∀ W, VS n0 b bh most z4 z9 c (.slice (some ⟨gV, 0, none⟩) c.vals.length cV) (.slice AK c.kids.length cK) W → W.cell? ⟨gV, (p + 1) * 3, none⟩ = some (.int .u8 pr.2.1) := fun W h => cel W h HA.out.2.2.2.1
      have n4' : ∀ W, VS n0 b bh most z4 z9 c (.slice (some ⟨gV, 0, none⟩) c.vals.length cV) (.slice AK c.kids.length cK) W → W.cell? ⟨gV, (p + 1) * 3 + 1, none⟩ = some (.int .i64 pr.2.2.1) := fun W h => cel W h HA.out.2.2.2.2.1
      have n5' : ∀ W, VS n0 b bh most z4 z9 c (.slice (some ⟨gV, 0, none⟩) c.vals.length cV) (.slice AK c.kids.length cK) W → W.cell? ⟨gV, (p + 1) * 3 + 2, none⟩ = some (.string pr.2.2.2) := fun W h => cel W h HA.out.2.2.2.2.2
      refine anyS_region (S := fun W' => VS n0 b bh most z4 z9 c (.slice (some ⟨gV, 0, none⟩) c.vals.length cV) (.slice AK c.kids.length cK) W') (by kernel_rfl) ?_
      have hH : VS n0 b bh most z4 z9 c (.slice (some ⟨gV, 0, none⟩) c.vals.length cV) (.slice AK c.kids.length cK) wr.drew := HVS.out.1.below (Below.refl _ wr).drew
      have HKD := Lib.hid (HVS.out.2.2.trans (Kv.below (Below.refl _ wr).drew))
      clear cel
      refine AnyS.first (i := 0) (v := ?_) rfl rfl (by kernel_rfl) (by kernel_rfl) (by kernel_rfl) (fun _ _ _ h => h) ⟨fun _ => rfl, Or.inl ⟨by rfl, ?_⟩⟩ hH ?_
      rotate_left
      · intro W' hS
        go_simp
        with_reducible rfl
      simp only [Act.put, List.setIfInBounds_toArray, List.set_cons_zero, List.set_cons_succ, List.getElem_toArray, List.getElem_cons_zero]
      refine AnyS.first (i := 1) (v := ?_) rfl rfl (by kernel_rfl) (by kernel_rfl) (by kernel_rfl) (fun _ _ _ h => h) ⟨fun _ => rfl, Or.inl ⟨by rfl, ?_⟩⟩ hH ?_
      rotate_left
      · intro W' hS
        go_simp
        with_reducible rfl
      simp only [Act.put, List.setIfInBounds_toArray, List.set_cons_zero, List.set_cons_succ, List.getElem_toArray, List.getElem_cons_zero, List.getElem_cons_succ]
      refine AnyS.first (i := 2) (v := ?_) rfl rfl (by kernel_rfl) (by kernel_rfl) (by kernel_rfl) (fun _ _ _ h => h) ⟨fun _ => rfl, Or.inl ⟨by rfl, ?_⟩⟩ hH ?_
      rotate_left
      · intro W' hS
        go_simp
        with_reducible rfl
      simp only [Act.put, List.setIfInBounds_toArray, List.set_cons_zero, List.set_cons_succ, List.getElem_toArray, List.getElem_cons_zero, List.getElem_cons_succ]
      refine AnyS.first (i := 3) (v := ?_) rfl rfl (by kernel_rfl) (by kernel_rfl) (by kernel_rfl) (fun _ _ _ h => h) ⟨fun _ => rfl, Or.inl ⟨by rfl, ?_⟩⟩ hH ?_
      rotate_left
      · intro W' hS
        go_simp
        with_reducible rfl
      simp only [Act.put, List.setIfInBounds_toArray, List.set_cons_zero, List.set_cons_succ, List.getElem_toArray, List.getElem_cons_zero, List.getElem_cons_succ]
      refine AnyS.first (i := 4) (v := ?_) rfl rfl (by kernel_rfl) (by kernel_rfl) (by kernel_rfl) (fun _ _ _ h => h) ⟨fun _ => rfl, Or.inl ⟨by rfl, ?_⟩⟩ hH ?_
      rotate_left
      · intro W' hS
        go_simp
        with_reducible rfl
      simp only [Act.put, List.setIfInBounds_toArray, List.set_cons_zero, List.set_cons_succ, List.getElem_toArray, List.getElem_cons_zero, List.getElem_cons_succ]
      refine AnyS.first (i := 5) (v := ?_) rfl rfl (by kernel_rfl) (by kernel_rfl) (by kernel_rfl) (fun _ _ _ h => h) ⟨fun _ => rfl, Or.inl ⟨by rfl, ?_⟩⟩ hH ?_
      rotate_left
      · intro W' hS
        go_simp
        with_reducible rfl
      simp only [Act.put, List.setIfInBounds_toArray, List.set_cons_zero, List.set_cons_succ, List.getElem_toArray, List.getElem_cons_zero, List.getElem_cons_succ]
      refine AnyS.first (i := 6) (v := ?_) rfl rfl (by kernel_rfl) (by kernel_rfl) (by kernel_rfl) (fun _ _ _ h => h) ⟨fun _ => rfl, Or.inl ⟨by rfl, ?_⟩⟩ hH ?_
      rotate_left
      · intro W' hS
        go_simp
        with_reducible rfl
      simp only [Act.put, List.setIfInBounds_toArray, List.set_cons_zero, List.set_cons_succ, List.getElem_toArray, List.getElem_cons_zero, List.getElem_cons_succ]
      refine AnyS.first (i := 7) (v := ?_) rfl rfl (by kernel_rfl) (by kernel_rfl) (by kernel_rfl) (fun _ _ _ h => h) ⟨fun _ => rfl, Or.inl ⟨by rfl, ?_⟩⟩ hH ?_
      rotate_left
      · intro W' hS
        go_simp
        with_reducible rfl
      simp only [Act.put, List.setIfInBounds_toArray, List.set_cons_zero, List.set_cons_succ, List.getElem_toArray, List.getElem_cons_zero, List.getElem_cons_succ]
      refine AnyS.first (i := 8) (v := ?_) rfl rfl (by kernel_rfl) (by kernel_rfl) (by kernel_rfl) (fun _ _ _ h => h) ⟨fun _ => rfl, Or.inl ⟨by rfl, ?_⟩⟩ hH ?_
      rotate_left
      · intro W' hS
        go_simp
        with_reducible rfl
      simp only [Act.put, List.setIfInBounds_toArray, List.set_cons_zero, List.set_cons_succ, List.getElem_toArray, List.getElem_cons_zero, List.getElem_cons_succ]
      refine AnyS.first (i := 9) (v := ?_) rfl rfl (by kernel_rfl) (by kernel_rfl) (by kernel_rfl) (fun _ _ _ h => h) ⟨fun _ => rfl, Or.inl ⟨by rfl, ?_⟩⟩ hH ?_
      rotate_left
      · intro W' hS
        go_simp
        with_reducible rfl
      simp only [Act.put, List.setIfInBounds_toArray, List.set_cons_zero, List.set_cons_succ, List.getElem_toArray, List.getElem_cons_zero, List.getElem_cons_succ]
      refine AnyS.first (i := 10) (v := ?_) rfl rfl (by kernel_rfl) (by kernel_rfl) (by kernel_rfl) (fun _ _ _ h => h) ⟨fun _ => rfl, Or.inl ⟨by rfl, ?_⟩⟩ hH ?_
      rotate_left
      · intro W' hS
        go_simp
        with_reducible rfl
      simp only [Act.put, List.setIfInBounds_toArray, List.set_cons_zero, List.set_cons_succ, List.getElem_toArray, List.getElem_cons_zero, List.getElem_cons_succ]
      refine AnyS.first (i := 11) (v := ?_) rfl rfl (by kernel_rfl) (by kernel_rfl) (by kernel_rfl) (fun _ _ _ h => h) ⟨fun _ => rfl, Or.inl ⟨by rfl, ?_⟩⟩ hH ?_
      rotate_left
      · intro W' hS
        go_simp
        with_reducible rfl
      simp only [Act.put, List.setIfInBounds_toArray, List.set_cons_zero, List.set_cons_succ, List.getElem_toArray, List.getElem_cons_zero, List.getElem_cons_succ]
      refine AnyS.first (i := 12) (v := ?_) rfl rfl (by kernel_rfl) (by kernel_rfl) (by kernel_rfl) (fun _ _ _ h => h) ⟨fun _ => rfl, Or.inl ⟨by rfl, ?_⟩⟩ hH ?_
      rotate_left
      · intro W' hS
        go_simp
        with_reducible rfl
      simp only [Act.put, List.setIfInBounds_toArray, List.set_cons_zero, List.set_cons_succ, List.getElem_toArray, List.getElem_cons_zero, List.getElem_cons_succ]
      obtain ⟨fn, tmps, assign, body, hy, hR⟩ := HY.out
      refine AnyS.one (i := 13) (by kernel_rfl) rfl (fun K hK => ?_)
      replace hK := Lib.hid hK
      clear y3 n0' n1' n2' n3' n4' n5'
      go_simp
      refine hR.mono ?_
      rintro e W3 (⟨rfl, hJ3, hk3⟩ | ⟨rfl, hJ3, hk3⟩)
      · have vs3 := hH.kv hk3
        have HV3 := Lib.hid (And.intro vs3 (And.intro hJ3 (HKD.out.trans hk3)))
        clear hJ3 hk3 hH
        simp only
        refine hK.out _ _ ⟨vs3, ?_⟩
        clear hK
        refine AnyS.first (i := 14) (v := ?_) rfl rfl (by kernel_rfl) (by kernel_rfl) (by kernel_rfl) (fun _ _ _ h => h) ⟨fun _ => rfl, Or.inl ⟨by rfl, ?_⟩⟩ vs3 ?_
        rotate_left
        · intro W' hS
          go_simp
          with_reducible rfl
        simp only [Act.put, List.setIfInBounds_toArray, List.set_cons_zero, List.set_cons_succ, List.getElem_toArray, List.getElem_cons_zero, List.getElem_cons_succ]
        refine AnyS.done (by kernel_rfl) ?_ _
        clear vs3
        gi_wp2
        go_roundw
        case rel =>
          obtain ⟨h1, h2, h3, _⟩ := HP.out
          exact ⟨p + 2, m + 1, rfl, by omega, by omega, HV3.out.2.1, HV3.out.1, HV3.out.2.2⟩
        case measure =>
          obtain ⟨h1, h2, h3, _⟩ := HP.out
          simp [intOf]
          omega
      · have vs3 := hH.kv hk3
        have HV3 := Lib.hid (And.intro hJ3 (HKD.out.trans hk3))
        clear hJ3 hk3 hH
        simp only
        refine hK.out _ _ ⟨vs3, ?_⟩
        clear hK
        refine AnyS.first (i := 14) (v := ?_) rfl rfl (by kernel_rfl) (by kernel_rfl) (by kernel_rfl) (fun _ _ _ h => h) ⟨fun _ => rfl, Or.inl ⟨by rfl, ?_⟩⟩ vs3 ?_
        rotate_left
        · intro W' hS
          go_simp
          with_reducible rfl
        simp only [Act.put, List.setIfInBounds_toArray, List.set_cons_zero, List.set_cons_succ, List.getElem_toArray, List.getElem_cons_zero, List.getElem_cons_succ]
        refine AnyS.done (by kernel_rfl) ?_ _
        clear vs3
        gi_wp2
        refine bodyPost_ret (v := .bool false) (by simp [results, Tryz.results98, go_sem]) rfl (.inr ⟨rfl, HV3.out.2, n + m + 1, ?_, HV3.out.1⟩)
        obtain ⟨h1, h2, h3, _⟩ := HP.out
        have := HXX.out.2.2.2.2.1
        omega
    · have hlt : ¬ (p : Int) + 1 < (c.vals.length : Int) := by have := HVL.out; omega
      have hme : m = lf.length := by omega
      subst hme
      have HJ0 := Lib.hid (show J (nk 0) wr by rw [HXX.out.2.2.2.2.2.1]; exact hJ)
      clear hJ hvs hkv hpm hm hml hlen
      gi_wp2
      clear x0 x1 x2 x3 x4 f0 f1 f2 f3 f4 hlt hw1 hw2
      gi_loopw [47] (fun s47 wq => ∃ m : Nat, s47 = .int .i64 (m : Int) ∧ m ≤ c.kids.length ∧ J (nk m) wq ∧ VS n0 b bh most z4 z9 c (.slice AV c.vals.length cV) (.slice AK c.kids.length cK) wq ∧ Kv n0 b most M0 root A wq) (fun s47 _ => c.kids.length - (intOf s47).toNat)
      case atStart => exact ⟨0, rfl, Nat.zero_le _, HJ0.out, HVS.out.1, HVS.out.2.2⟩
      case round =>
        clear HVS HJ0
        obtain ⟨m, rfl, hm, hJ, hvs, hkv⟩ := hrel
        have hk32 := HXX.out.2.2.1
        by_cases hml : m < c.kids.length
        · have hlt : (m : Int) < (c.kids.length : Int) := by omega
          have hm0 : (0 : Int) ≤ (m : Int) := by omega
          obtain ⟨k, hk⟩ : ∃ k, c.kids[m]? = some k := ⟨_, List.getElem?_eq_getElem hml⟩
          obtain ⟨gK, cK', eK, _, kc, _⟩ := own_at hvs.kr.1 (nsn_at hk)
          simp only [Value.slice.injEq, true_and] at eK
          obtain ⟨rfl, rfl⟩ := eK
          have hB0 := HB0.out
          have hwb : IntKind.i64.wrap c.b = c.b := IntWalk.i64_in _ (by omega)
          have hwm : IntKind.i64.wrap ((m : Int) + 1) = (m : Int) + 1 := IntWalk.i64_in _ (by omega)
          have HK := Lib.hid (HXX.out.2.2.2.2.2.2.1 m k hk wr (hkv.ok HOK.out) (Nat.le_trans hvs.n4.1 (Nat.le_of_lt hvs.lb.lt)) hJ)
          have HVS := Lib.hid (And.intro hvs (And.intro hkv (And.intro hm hml)))
          have l0 := hvs.lb.c0
          have l1 := hvs.lb.c1
          have x2 := hvs.cb.c2
          clear hk hJ hvs hkv hm hml hk32 hB0
          gi_wp2
          refine ⟨trivial, (callsIn_wide.2 HK.out).mono ?_⟩
          rintro e w5 (⟨rfl, hJ5, hk5⟩ | ⟨rfl, hk5, hJ5⟩)
          · have HV5 := Lib.hid (And.intro hJ5 (And.intro (HVS.out.1.kv hk5) (HVS.out.2.1.trans hk5)))
            clear hJ5 hk5 l0 l1 x2 kc
            gi_wp2
            go_roundw
            case rel => exact ⟨m + 1, rfl, by have := HVS.out.2.2.2; omega, HV5.out⟩
            case measure =>
              have := HVS.out.2.2.2
              simp [intOf]
              omega
          · have HV5 := Lib.hid (And.intro (HVS.out.2.1.trans hk5) hJ5)
            clear hJ5 hk5 l0 l1 x2 kc
            gi_wp2
            exact bodyPost_ret (v := .bool false) (by simp [results, Tryz.results98, go_sem]) rfl (.inr ⟨rfl, HV5.out⟩)
        · have hlt : ¬ (m : Int) < (c.kids.length : Int) := by omega
          obtain rfl : m = c.kids.length := by omega
          have HV5 := Lib.hid (And.intro hJ hkv)
          clear hJ hkv hvs hm hml
          gi_wp2
          exact bodyPost_ret (v := .bool true) (by simp [results, Tryz.results98, go_sem]) rfl (.inl ⟨rfl, HV5.out⟩)
end
end Go.Proofs.YtdddhmipifkepaaGreat

namespace Go.Proofs.YtdddhmipifkepaaGreat
set_option maxRecDepth 100000
open Go.RowKit
section
variable {n0 b bh most root lp : Nat} {M0 : Cells} {hs : Ky → Nat} {J Jx : Nat → World → Prop} {xs : List Pr}
theorem vvisit (R : Rounds n0 b most M0 root lp J Jx xs) (hx : xs.length ≤ 4096) (hz : M0 0 = none) {lv i : Nat} {l : List Pr} (hT : HT M0 hs lv i l) : ∀ (lev : Int) (n : Nat) (A : World), lev < (lv : Int) → (∀ M, Pres M0 M root → Pres M0 M i) → Okay b most M0 root A → n0 ≤ A.heap.size → (∀ j p, l[j]? = some p → xs[n + j]? = some p) → n + l.length ≤ xs.length → J n A →
    Calls Tryz.prog 98 #[land b bh, .int .i64 (i : Nat), .int .i64 lev, .func (.yield lp) #[] #[]] A (Vis n0 b most M0 root J Jx xs (n + l.length) A) := by
  induction hT with
  | @leaf lv i l c r h =>
    intro lev n A hlev hsub ok h0 hxs hlen hJ
    have hk : c.kids.length = 0 := by rw [h.kids]; rfl
    have hv := h.lv
    have := vvisit_cell R hx i r n lev c l (fun _ => n + l.length) A h.cell (by rw [h.cb]; omega) h.sound (by rw [h.cb]; decide) h.vals (by omega) hsub hxs hlen rfl (fun m k e => by rw [h.kids] at e; cases e) ok h0 hJ (bh := bh)
    exact this
  | @node lv i l c r bb s K L h hT ih =>
    intro lev n A hlev hsub ok h0 hxs hlen hJ
    have hl : l = (dgs s 32).flatMap L := by rw [h.eq, dgs_join s L h.no 32]; rfl
    have hdl : (dgs s 32).length = c.kids.length := by rw [dgs_len, h.len]
    have hv := h.lv
    have h13 := h.b13
    have hend : n + (((dgs s 32).take c.kids.length).flatMap L).length = n + l.length := by rw [← hdl, List.take_length, ← hl]
    have := vvisit_cell R hx i r n lev c [] (fun m => n + (((dgs s 32).take m).flatMap L).length) A h.cell (by rw [h.cb]; omega) h.sound (by rw [h.cb]; omega) (by rw [h.vals]; rfl) (by rw [h.len]; exact cnt_le32 32) hsub (fun j p e => by cases e) (by simp; omega) (by simp) (fun m k hk B okB hB hJB => ?_) ok h0 (by simpa using hJ) (bh := bh)
    · rw [hend] at this
      exact this
    · have hm : m < (dgs s 32).length := by rw [hdl]; exact (List.getElem?_eq_some_iff.1 hk).1
      obtain ⟨d, hd⟩ : ∃ d, (dgs s 32)[m]? = some d := ⟨_, List.getElem?_eq_getElem hm⟩
      obtain ⟨d32, dbit, dcnt⟩ := dgs_back s 32 m d hd
      have hkd := h.kid d d32 dbit
      rw [dcnt, hk] at hkd
      cases hkd
      have h0d := (hT d d32 dbit).pos hz
      have hmem : K d ∈ c.kids := List.mem_of_getElem? hk
      have hsp : dgs s 32 = (dgs s 32).take m ++ d :: (dgs s 32).drop (m + 1) := by
        have e1 := (List.getElem?_eq_some_iff.1 hd).2
        have e2 := List.drop_eq_getElem_cons hm
        rw [e1] at e2
        rw [← e2]
        exact (List.take_append_drop m _).symm
      have hl2 : l = ((dgs s 32).take m).flatMap L ++ (L d ++ ((dgs s 32).drop (m + 1)).flatMap L) := by
        rw [hl]
        conv => lhs; rw [hsp]
        rw [List.flatMap_append, List.flatMap_cons]
      have htake : (dgs s 32).take (m + 1) = (dgs s 32).take m ++ [d] := by rw [List.take_add_one, hd]; rfl
      have hlen2 : n + (((dgs s 32).take m).flatMap L).length + (L d).length = n + (((dgs s 32).take (m + 1)).flatMap L).length := by
        rw [htake, List.flatMap_append, List.length_append]
        simp
        omega
      rw [h.cb]
      have := ih d d32 dbit (bb : Int) (n + (((dgs s 32).take m).flatMap L).length) B (by omega) (fun M hM => (hsub M hM).kid h.cell hmem h0d) okB hB (fun j p e => ?_) (by
        have hll := congrArg List.length hl2
        rw [List.length_append, List.length_append] at hll
        omega) hJB
      · rw [hlen2] at this
        exact this
      · rw [Nat.add_assoc]
        apply hxs
        rw [hl2, List.getElem?_append_right (by omega), Nat.add_sub_cancel_left, List.getElem?_append_left (List.getElem?_eq_some_iff.1 e).1]
        exact e
set_option maxHeartbeats 1600000 in
theorem vvisit_no (lp i : Nat) (lev : Int) (A : World) {M : Cells} {F : Nat → Prop} (h : Ar A b most M F) (hM : M i = none) :
    Calls Tryz.prog 98 #[land b bh, .int .i64 (i : Nat), .int .i64 lev, .func (.yield lp) #[] #[]] A fun e B => e = .returned (.bool true) ∧ Below A.heap.size A B := by
  have hbox : Below A.heap.size A (A.alloc (.cells #[ap b, .pointer (some ⟨bh, 0, none⟩)] 26)) := (Below.refl _ A).alloc (Nat.le_refl _) _
  have q4 := C2.new A 26 (ap b) (.pointer (some ⟨bh, 0, none⟩))
  have HBE := Lib.hid (vbelow_no bh i lev _ (h.below hbox) hM)
  have x0 := q4.c0
  have x1 := q4.c1
  have HB := Lib.hid hbox
  clear h hM hbox q4
  refine (callsIn_wide (n := 1)).1 ?_
  refine callsIn_of_wp Tryz.func98 rfl trivial ?_ rfl
  simp only [Tryz.ntmps98, List.size_toArray, List.length_cons, List.length_nil, Nat.reduceAdd, Nat.reduceSub, Array.replicate_succ, Array.replicate_zero, List.push_toArray, List.append_toArray, List.nil_append, List.cons_append]
  gi_wp2
  refine ⟨trivial, (callsIn_wide.2 HBE.out).mono ?_⟩
  rintro e w2 ⟨rfl, hb2⟩
  have hb3 := (HB.out.trans (hb2.mono HB.out.size)).alloc (Nat.le_trans HB.out.size hb2.size) (.cells #[.int .u32 0, .int .u32 0, .int .u32 0, .slice none 0 0, .slice none 0 0] 109)
  have q9 := C5.new w2 109 (.int .u32 0) (.int .u32 0) (.int .u32 0) (.slice none 0 0) (.slice none 0 0)
  have HB2 := Lib.hid hb2
  clear hb2 x0 x1
  gi_wp2
  generalize w2.alloc (.cells #[.int .u32 0, .int .u32 0, .int .u32 0, .slice none 0 0, .slice none 0 0] 109) = w3 at *
  generalize w2.heap.size = z9 at *
  have HB3 := Lib.hid hb3
  obtain ⟨x0, x1, x2, x3, x4, f0, f1, f2, f3, f4⟩ := q9.all
  clear hb3 q9 HB2 HBE
  gi_loopw [11] (fun s wr => s = .int .i64 0 ∧ wr = w3) (fun _ _ => 0)
  case atStart => exact ⟨rfl, rfl⟩
  case round =>
    obtain ⟨rfl, rfl⟩ := hrel
    gi_wp2
    gi_loopw [47] (fun s wr' => s = .int .i64 0 ∧ wr' = wr) (fun _ _ => 0)
    case atStart => exact ⟨rfl, rfl⟩
    case round =>
      obtain ⟨rfl, rfl⟩ := hrel
      gi_wp2
      exact bodyPost_ret (v := .bool true) (by simp [results, Tryz.results98, go_sem]) rfl ⟨rfl, HB3.out⟩
end
end Go.Proofs.YtdddhmipifkepaaGreat

namespace Go.Proofs.YtdddhmipifkepaaGreat
set_option maxRecDepth 100000
open Go.RowKit
abbrev seqv (zl zm : Nat) : Value := .func (.func 97) #[] #[.pointer (some ⟨zl, 0, none⟩), .pointer (some ⟨zm, 0, none⟩)]
section
variable {b bh most root N : Nat} {M0 : Cells} {hs : Ky → Nat} {l : List Pr}
theorem vPairs (b bh N root : Nat) (w : World) :
    Calls Tryz.prog 17 #[land b bh, .agg #[.int .i64 (N : Nat), .int .i64 (root : Nat)]] w fun e w' => ∃ zl zm, e = .returned (seqv zl zm) ∧ C2 w' zl 26 (ap b) (.pointer (some ⟨bh, 0, none⟩)) ∧ C2 w' zm 30 (.int .i64 (N : Int)) (.int .i64 (root : Int)) ∧ w.heap.size ≤ zl ∧ w.heap.size ≤ zm ∧ Below w.heap.size w w' := by
  have hb : Below w.heap.size w ((w.alloc (.cells #[ap b, .pointer (some ⟨bh, 0, none⟩)] 26)).alloc (.cells #[.int .i64 (N : Int), .int .i64 (root : Int)] 30)) := ((Below.refl _ w).alloc (Nat.le_refl _) _).alloc (by simp) _
  have e1 : (w.alloc (.cells #[ap b, .pointer (some ⟨bh, 0, none⟩)] 26)).heap.size = w.heap.size + 1 := by simp
  have q1 := (C2.new w 26 (ap b) (.pointer (some ⟨bh, 0, none⟩))).alloc (.cells #[.int .i64 (N : Int), .int .i64 (root : Int)] 30)
  have q2 := C2.new (w.alloc (.cells #[ap b, .pointer (some ⟨bh, 0, none⟩)] 26)) 30 (.int .i64 (N : Int)) (.int .i64 (root : Int))
  rw [e1] at q2
  have HX := Lib.hid (And.intro q1 (And.intro q2 (And.intro (Nat.le_refl w.heap.size) (And.intro (Nat.le_succ w.heap.size) hb))))
  clear hb e1 q1 q2
  go_enter Tryz.func17, Tryz.ntmps17
  go_wp2_with fail
  exact bodyPost_ret (v := seqv w.heap.size (w.heap.size + 1)) (by simp [results, Tryz.results17, go_sem]) rfl ⟨_, _, rfl, HX.out⟩
set_option maxHeartbeats 1600000 in
theorem pairs_gives (zl zm : Nat) (w : World) (hx : l.length ≤ 4096) (hz : M0 0 = none) (hT : Mp M0 hs root l) (ok : Okay b most M0 root w) (q1 : C2 w zl 26 (ap b) (.pointer (some ⟨bh, 0, none⟩))) (q2 : C2 w zm 30 (.int .i64 (N : Int)) (.int .i64 (root : Int))) :
    Gives8 Tryz.prog 97 (fun v => #[] ++ #[v] ++ #[.pointer (some ⟨zl, 0, none⟩), .pointer (some ⟨zm, 0, none⟩)]) (fun p : Pr => #[pagg p]) (Kv w.heap.size b most M0 root) l w := by
  intro lp J Jx W hW hJ hJx hY h0
  have R : Rounds w.heap.size b most M0 root lp J Jx l := ⟨hJ, hY⟩
  have hnil : ∀ W : World, Sem.run Tryz.prog (binOp .neq 172 (.func (.yield lp) #[] #[]) .nilFunc) W = .ok (.bool true) W := fun _ => by kernel_rfl
  have HV : Hid (Calls Tryz.prog 98 #[land b bh, .int .i64 (root : Nat), .int .i64 (-1), .func (.yield lp) #[] #[]] W fun e B => (∃ v, e = .returned v) ∧ (J l.length B ∨ ∃ i, i ≤ l.length ∧ Jx i B)) := Lib.hid (by
    rcases hT with ⟨rfl, rfl⟩ | hT
    · obtain ⟨M, F, hA, _⟩ := ok.below hW
      refine (vvisit_no lp 0 (-1) W hA hA.zero).mono ?_
      rintro e B ⟨rfl, hb⟩
      exact ⟨⟨_, rfl⟩, .inl (hJ _ _ _ h0 hb)⟩
    · refine (vvisit R hx hz hT (-1) 0 W (by omega) (fun M h => h) (ok.below hW) hW.size (fun j p e => by rw [Nat.zero_add]; exact e) (by omega) h0).mono ?_
      rintro e B (⟨rfl, h1, _⟩ | ⟨rfl, _, h1⟩)
      · rw [Nat.zero_add] at h1
        exact ⟨⟨_, rfl⟩, .inl h1⟩
      · exact ⟨⟨_, rfl⟩, .inr h1⟩)
  have x0 := (q1.below hW).c0
  have x1 := (q1.below hW).c1
  have y1 := (q2.below hW).c1
  clear hx hz hT ok q1 q2 hJ hJx hY h0 R
  refine (callsIn_wide (n := 1)).1 ?_
  refine callsIn_of_wp Tryz.func97 rfl trivial ?_ rfl
  simp only [Tryz.ntmps97, List.size_toArray, List.length_cons, List.length_nil, Nat.reduceAdd, Nat.reduceSub, Array.replicate_succ, Array.replicate_zero, List.push_toArray, List.append_toArray, List.nil_append, List.cons_append]
  gi_wp2
  refine ⟨trivial, (callsIn_wide.2 HV.out).mono ?_⟩
  rintro e w' ⟨⟨v, rfl⟩, h1⟩
  have H1 := Lib.hid h1
  clear h1 x0 x1 y1
  gi_wp2
  go_end0
  exact ⟨⟨_, rfl⟩, H1.out⟩
end
end Go.Proofs.YtdddhmipifkepaaGreat

namespace Go.Proofs.YtdddhmipifkepaaGreat
set_option maxRecDepth 100000
open Go.RowKit
theorem below_kp {w w1 w9 : World} {F : Nat → Prop} (hb : Below w.heap.size w w1) (hk : Kp F w1 w9) (hF : ∀ q, F q → w.heap.size ≤ q) : Below w.heap.size w w9 := by
  have h := (Kp.of_below hb (fun _ => False)).trans hk (fun q h => .inr (hF q h))
  exact ⟨h.os, h.tape, h.output, h.size, fun k hk => h.block k hk id⟩
section
end
end Go.Proofs.YtdddhmipifkepaaGreat

namespace Go.Proofs.YtdddhmipifkepaaGreat
set_option maxRecDepth 100000
open Go.RowKit
section
end
end Go.Proofs.YtdddhmipifkepaaGreat

namespace Go.Proofs.YtdddhmipifkepaaGreat
set_option maxRecDepth 100000
open Go.RowKit
theorem lnumber (n : Int) (w : World) : Calls Tryz.prog 16 #[.int .i64 n] w fun e w' => e = .returned (xagg (2, n, ⟨#[]⟩)) ∧ Below w.heap.size w w' := by
  go_enter Tryz.func16, Tryz.ntmps16
  go_wp2
  exact bodyPost_ret (v := xagg (2, n, ⟨#[]⟩)) (by simp [results, Tryz.results16, go_sem]) rfl ⟨rfl, (Below.refl _ _).alloc (Nat.le_refl _) _⟩
theorem bk0 (most : Nat) : Bk (most + 1) (fun _ => none) [] (fun _ => 0) [0] := by
  have hocc : ∀ i, occ (most + 1) (fun _ => none) i = 0 := fun i => sumTo_zero fun _ _ => by simp [kd]
  refine ⟨?_, fun h hh => by simp at hh, fun j => by simp [kd]⟩
  rw [blank_nil]
  refine ⟨rfl, fun _ _ => rfl, fun _ h => absurd rfl h, fun i hi => ?_, ⟨fun _ => 0, fun j k hk => by simp [kd] at hk⟩⟩
  rw [hocc]
  have : ¬ 0 = i := by omega
  simp [rf, this]
structure LS (w : World) (b bh seed most z1 : Nat) (M : Cells) (F : Nat → Prop) (W : World) : Prop where
  ar : Ar W b most M F
  hh : Hs W bh seed
  nb : ¬ F bh
  lb : C2 W z1 26 (ap b) (.pointer (some ⟨bh, 0, none⟩))
  nz : ¬ F z1 ∧ z1 ≠ bh
  bel : Below w.heap.size w W
  fr : ∀ q, F q → w.heap.size ≤ q
  lo : w.heap.size ≤ z1 ∧ w.heap.size ≤ bh
section
variable {w W W' : World} {b bh seed most z1 : Nat} {M M' : Cells} {F : Nat → Prop}
theorem LS.below (h : LS w b bh seed most z1 M F W) (hb : Below W.heap.size W W') : LS w b bh seed most z1 M F W' :=
  ⟨h.ar.below hb, h.hh.below hb, h.nb, h.lb.below hb, h.nz, h.bel.trans (hb.mono h.bel.size), h.fr, h.lo⟩
theorem LS.alloc (h : LS w b bh seed most z1 M F W) (o : Obj) : LS w b bh seed most z1 M F (W.alloc o) := h.below ((Below.refl _ W).alloc (Nat.le_refl _) o)
theorem LS.kp {G : Nat → Prop} (h : LS w b bh seed most z1 M F W) (hk : Kp G W W') (hG : ∀ q, G q → w.heap.size ≤ q ∧ ¬ F q ∧ q ≠ bh ∧ q ≠ z1) : LS w b bh seed most z1 M F W' :=
  ⟨h.ar.kp hk (fun q hf hg => (hG q hg).2.1 hf), h.hh.kp hk (fun hg => (hG _ hg).2.2.1 rfl), h.nb, h.lb.kp hk (fun hg => (hG _ hg).2.2.2 rfl), h.nz, below_kp h.bel hk (fun q hg => (hG q hg).1), h.fr, h.lo⟩
theorem LS.hash (h : LS w b bh seed most z1 M F W) (hk : Kp (fun q => q = bh) W W') (hh : Hs W' bh seed) : LS w b bh seed most z1 M F W' :=
  ⟨h.ar.kp hk (fun q hf hg => h.nb (hg ▸ hf)), hh, h.nb, h.lb.kp hk (fun e => h.nz.2 e), h.nz, below_kp h.bel hk (fun q hg => by rw [hg]; exact h.lo.2), h.fr, h.lo⟩
theorem LS.put (h : LS w b bh seed most z1 M F W) (hs : StpH W W' b bh seed most M' F) : LS w b bh seed most z1 M' (Fn F W W') W' := by
  have s1 := h.bel.size
  have hbl := h.hh.lt
  have hzl := h.lb.lt
  exact ⟨hs.ar, hs.hh, fun hf => hf.elim h.nb (fun e => by omega), h.lb.kp hs.kp (fun e => e.elim h.nz.1 h.nz.2), ⟨fun hf => hf.elim h.nz.1 (fun e => by omega), h.nz.2⟩, below_kp h.bel hs.kp (fun q e => e.elim (h.fr q) (fun e => by rw [e]; exact h.lo.2)), fun q hf => hf.elim (h.fr q) (fun e => Nat.le_trans s1 e.1), h.lo⟩
theorem LS.stp (h : LS w b bh seed most z1 M F W) (hs : Stp W W' b most M' F) : LS w b bh seed most z1 M' (Fn F W W') W' := by
  have s1 := h.bel.size
  have hbl := h.hh.lt
  have hzl := h.lb.lt
  exact ⟨hs.ar, h.hh.kp hs.kp h.nb, fun hf => hf.elim h.nb (fun e => by omega), h.lb.kp hs.kp h.nz.1, ⟨fun hf => hf.elim h.nz.1 (fun e => by omega), h.nz.2⟩, below_kp h.bel hs.kp h.fr, fun q hf => hf.elim (h.fr q) (fun e => Nat.le_trans s1 e.1), h.lo⟩
end
section
end
end Go.Proofs.YtdddhmipifkepaaGreat

namespace Go.Proofs.YtdddhmipifkepaaGreat
set_option maxRecDepth 100000
open Go.RowKit
section
set_option maxHeartbeats 1600000 in
theorem rat (g i : Nat) (hg : g < 18446744073709551616) (hi : i < 13) (w : World) : Calls Tryz.prog 234 #[.int .u64 (g : Nat), .int .i64 (i : Nat)] w fun e w' => e = .returned (.int .i64 (dg g i : Nat)) ∧ w = w' := by
  have h0 : ¬ (i : Int) < 0 := by omega
  have h1 : ¬ (12 : Int) < (i : Int) := by omega
  go_enter Tryz.func234, Tryz.ntmps234
  go_wp2_with fail
  go_loopw [0, 5] (fun s0 s5 wr => ∃ j m : Nat, j ≤ i ∧ s5 = .int .i64 (j : Int) ∧ s0 = .int .u64 (m : Int) ∧ Hid (m = g / 32 ^ j ∧ m ≤ g) ∧ wr = w) (fun _ s5 _ => i - (intOf s5).toNat)
  case atStart => exact ⟨0, g, Nat.zero_le _, rfl, rfl, ⟨by simp, Nat.le_refl _⟩, rfl⟩
  case round =>
    obtain ⟨j, m, hj, rfl, rfl, HM, rfl⟩ := hrel
    by_cases hji : j < i
    · have hlt : (j : Int) < (i : Int) := by omega
      have hw1 : IntKind.i64.wrap ((j : Int) + 1) = (j : Int) + 1 := IntWalk.i64_in _ (by omega)
      have hu : IntKind.u64.wrap ((m : Int) / 32) = (m : Int) / 32 := by
        have hle := HM.out.2
        have e0 : ∀ x : Int, IntKind.u64.wrap x = x % 18446744073709551616 := fun x => by simp [IntKind.wrap, IntKind.bits, IntKind.signed]
        rw [e0]
        omega
      go_wp2_with fail
      go_roundw
      case rel => exact ⟨j + 1, m / 32, by omega, rfl, rfl, ⟨by rw [HM.out.1, Nat.div_div_eq_div_mul, Nat.pow_succ], by have := HM.out.2; omega⟩, trivial⟩
      case measure => simp [intOf]; omega
    · have hlt : ¬ (j : Int) < (i : Int) := by omega
      obtain rfl : j = i := by omega
      have HD := Lib.hid (show ((dg g j : Nat) : Int) = (m : Int) % 32 by unfold dg; rw [← HM.out.1]; rfl)
      have hm32 : (m : Int) % 32 < 32 := by omega
      have hw2 : wrap64 ((m : Int) % 32) = (m : Int) % 32 := IntWalk.wrap64_in _ (by omega)
      go_wp2_with fail
      exact bodyPost_ret (v := .int .i64 ((m : Int) % 32)) (by simp [results, Tryz.results234, go_sem]) rfl ⟨by rw [HD.out], rfl⟩
set_option maxHeartbeats 1600000 in
theorem rless (hs : Ky → Nat) (seed : Nat) (a b : Ky) (ha : 0 ≤ a.1 ∧ a.1 ≤ 255 ∧ 17 + a.2.2.size ≤ 140737488355328) (hb : 0 ≤ b.1 ∧ b.1 ≤ 255 ∧ 17 + b.2.2.size ≤ 140737488355328) (ea : hs a = hashN seed a.1 a.2.1 a.2.2) (eb : hs b = hashN seed b.1 b.2.1 b.2.2) (w : World) :
    Calls Tryz.prog 173 #[.int .u64 (seed : Nat), vv a.1 a.2.1 a.2.2, vv b.1 b.2.1 b.2.2] w fun e w' => e = .returned (.bool (kltB hs a b)) ∧ Below w.heap.size w w' := by
  have HOA := Lib.hid (fun W => ref_of seed a.1 a.2.1 a.2.2 W ha.1 ha.2.1 ha.2.2)
  have HOB := Lib.hid (fun W => ref_of seed b.1 b.2.1 b.2.2 W hb.1 hb.2.1 hb.2.2)
  rw [← ea] at HOA
  rw [← eb] at HOB
  have HLS := Lib.hid (fun W => ref_less a.1 a.2.1 a.2.2 b.1 b.2.1 b.2.2 W (by omega) (by omega))
  obtain ⟨ga, hga⟩ : ∃ ga, ga = hs a := ⟨_, rfl⟩
  obtain ⟨gb, hgb⟩ : ∃ gb, gb = hs b := ⟨_, rfl⟩
  rw [← hga] at HOA
  rw [← hgb] at HOB
  have HGL := Lib.hid (show ga < 18446744073709551616 ∧ gb < 18446744073709551616 from ⟨by rw [hga, ea]; exact mixN_lt _, by rw [hgb, eb]; exact mixN_lt _⟩)
  have HGE := Lib.hid (And.intro hga hgb)
  obtain ⟨W0, hW0⟩ : ∃ W0, W0 = (w.alloc (.cells #[.int .u8 a.1, .int .i64 a.2.1, .string a.2.2] 98)).alloc (.cells #[.int .u8 b.1, .int .i64 b.2.1, .string b.2.2] 98) := ⟨_, rfl⟩
  have hb0 : Below w.heap.size w W0 := by rw [hW0]; exact ((Below.refl _ w).alloc (Nat.le_refl _) _).alloc (by simp) _
  have q4 : C3 W0 w.heap.size 98 (.int .u8 a.1) (.int .i64 a.2.1) (.string a.2.2) := by rw [hW0]; exact (C3.new w _ _ _ _).alloc _
  have q5 : C3 W0 (w.heap.size + 1) 98 (.int .u8 b.1) (.int .i64 b.2.1) (.string b.2.2) := by
    have h := C3.new (w.alloc (.cells #[.int .u8 a.1, .int .i64 a.2.1, .string a.2.2] 98)) 98 (.int .u8 b.1) (.int .i64 b.2.1) (.string b.2.2)
    rw [hW0]
    simpa using h
  have HW0 := Lib.hid hW0
  have HB0 := Lib.hid hb0
  have HQ := Lib.hid (And.intro q4 q5)
  obtain ⟨a0, a1, a2, _⟩ := q4.all
  clear ha hb ea eb hga hgb hW0 hb0 q4 q5
  go_enter Tryz.func173, Tryz.ntmps173
  go_upto_region 1 with fail
  rw [← HW0.out]
  clear HW0
  go_wp2_with fail
  refine (HOA.out _).mono ?_
  rintro e w1 ⟨rfl, hb1⟩
  have HB1 := Lib.hid hb1
  obtain ⟨b0, b1, b2, _⟩ := (HQ.out.2.below hb1).all
  clear hb1 a0 a1 a2 HOA
  go_wp2_with fail
  refine (HOB.out _).mono ?_
  rintro e w2 ⟨rfl, hb2⟩
  have HB2 := Lib.hid (HB1.out.trans (hb2.mono HB1.out.size))
  clear hb2 b0 b1 b2 HOB HB1
  go_wp2_with fail
  go_loopw [9] (fun s9 wr => ∃ j : Nat, s9 = .int .i64 (j : Int) ∧ j ≤ 13 ∧ Hid (∀ i, i < j → dg ga i = dg gb i) ∧ wr = w2) (fun s9 _ => 13 - (intOf s9).toNat)
  case atStart => exact ⟨0, rfl, by decide, fun i hi => by omega, rfl⟩
  case round =>
    obtain ⟨j, rfl, hj, HA, rfl⟩ := hrel
    by_cases h13 : j < 13
    · have h13' : (j : Int) < 13 := by omega
      have hw1 : IntKind.i64.wrap ((j : Int) + 1) = (j : Int) + 1 := IntWalk.i64_in _ (by omega)
      by_cases e : dg ga j = dg gb j
      · have e' : ((dg ga j : Int) == (dg gb j : Int)) = true := by rw [beq_iff_eq]; omega
        have HE := Lib.hid e
        clear e
        go_wp2_with fail
        refine (rat ga j HGL.out.1 h13 _).mono ?_
        rintro x w' ⟨rfl, rfl⟩
        go_wp2_with fail
        refine (rat gb j HGL.out.2 h13 _).mono ?_
        rintro x w' ⟨rfl, rfl⟩
        rw [← HE.out]
        go_wp2_with fail
        go_roundw
        case rel => exact ⟨j + 1, rfl, by omega, fun i hi => by
          by_cases ei : i = j
          · rw [ei]; exact HE.out
          · exact HA.out i (by omega), trivial⟩
        case measure => simp [intOf]; omega
      · have hne : ¬ (dg ga j : Int) = (dg gb j : Int) := by omega
        have HP := Lib.hid (show pt ga gb = j from pt_uniq hj HA.out (fun _ => e))
        clear e
        go_wp2_with fail
        refine (rat ga j HGL.out.1 h13 _).mono ?_
        rintro x w' ⟨rfl, rfl⟩
        go_wp2_with fail
        refine (rat gb j HGL.out.2 h13 _).mono ?_
        rintro x w' ⟨rfl, rfl⟩
        go_wp2_with fail
        refine bodyPost_ret (v := .bool (decide ((dg ga j : Int) < (dg gb j : Int)))) (by simp [results, Tryz.results173, go_sem]) rfl ⟨?_, HB0.out.trans (HB2.out.mono HB0.out.size)⟩
        have hkl : kltB hs a b = decide (dg ga j < dg gb j) := by
          unfold kltB
          rw [← HGE.out.1, ← HGE.out.2, HP.out, if_pos h13]
        rw [hkl]
        congr 2
        exact decide_eq_decide.2 (by omega)
    · have h13' : ¬ (j : Int) < 13 := by omega
      obtain rfl : j = 13 := by omega
      have HP := Lib.hid (show pt ga gb = 13 from pt_uniq (Nat.le_refl _) HA.out (fun h => absurd h (Nat.lt_irrefl _)))
      obtain ⟨a0, a1, a2, _⟩ := (HQ.out.1.below HB2.out).all
      obtain ⟨b0, b1, b2, _⟩ := (HQ.out.2.below HB2.out).all
      go_wp2_with fail
      refine (HLS.out _).mono ?_
      rintro x w' ⟨rfl, hg⟩
      have HG := Lib.hid hg.below
      clear hg a0 a1 a2 b0 b1 b2
      go_wp2_with fail
      refine bodyPost_ret (v := .bool (lessB a.1 a.2.1 a.2.2 b.1 b.2.1 b.2.2)) (by simp [results, Tryz.results173, go_sem]) rfl ⟨?_, (HB0.out.trans (HB2.out.mono HB0.out.size)).trans (HG.out.mono (Nat.le_trans HB0.out.size HB2.out.size))⟩
      have hkl : kltB hs a b = lessB a.1 a.2.1 a.2.2 b.1 b.2.1 b.2.2 := by
        unfold kltB lessB vc
        rw [← HGE.out.1, ← HGE.out.2, HP.out, if_neg (by decide)]
      rw [hkl]
end
end Go.Proofs.YtdddhmipifkepaaGreat

namespace Go.Proofs.YtdddhmipifkepaaGreat
set_option maxRecDepth 100000
open Go.RowKit
def pcells (p : Pr) : List Value := cells3 p.1 ++ cells3 p.2
theorem pflat_get : ∀ (l : List Pr) (i : Nat) (p : Pr), l[i]? = some p → ∀ t, t < 6 → (l.flatMap pcells)[i * 6 + t]? = (pcells p)[t]?
  | [], i, p, h, _, _ => by simp at h
  | q :: l, 0, p, h, t, ht => by
    obtain rfl : q = p := by simpa using h
    rw [List.flatMap_cons, List.getElem?_append_left (by show 0 * 6 + t < 6; omega), Nat.zero_mul, Nat.zero_add]
  | q :: l, i + 1, p, h, t, ht => by
    rw [List.flatMap_cons, List.getElem?_append_right (by show 6 ≤ _; omega)]
    have : (i + 1) * 6 + t - (pcells q).length = i * 6 + t := by show (i + 1) * 6 + t - 6 = _; omega
    rw [this]
    exact pflat_get l i p (by simpa using h) t ht
section
end
end Go.Proofs.YtdddhmipifkepaaGreat

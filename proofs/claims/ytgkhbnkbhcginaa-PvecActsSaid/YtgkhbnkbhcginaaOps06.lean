/- Package pvec: Push, Pop, Set, Drop and Keep, whoever owns what, by the books. -/
import Derived.Test.YtgkhbnkbhcginaaSetB06
import Derived.Test.YtgkhbnkbhcginaaPops06
namespace Go.Proofs.Ytgkhbnkbhcginaa
open Go.RowKit

section
variable {b most : Nat} {M : Cells} {F : Nat → Prop} {P : Nat → Nat}
theorem VRes.weak {most j k : Nat} {M M' : Cells} {P : Nat → Nat} {v v' : Vc} {ow : Int} {l' : Vs} (h : VRes most M P v ow j v' l' M') (hjk : j ≤ k) : VRes most M P v ow k v' l' M' :=
  ⟨h.vec, h.bk, h.keeps, Nat.le_trans h.live (Nat.add_le_add_left hjk _)⟩
theorem fresh1_le {ow : Int} {i : Nat} : freshN M ow [i] ≤ 1 := freshN_le M ow [i]
theorem push_bk (v : Vc) (l : Vs) (x : Int × Int × ByteArray) (ow : Int) (w : World) (h : Ar w b most M F) (hm : most ≤ 1048576) (hP : ∀ j, P j ≤ 576460752303423488) (hb : Bk (most + 1) M [] P [v.root, v.tail]) (hv : VecIs M v l) (hl : l.length < 1024) (hroom : live (most + 1) M + 2 ≤ most) :
    Calls Try.prog 14 #[ap b, vagg v, xagg x, .int .u32 ow] w fun e w' => ∃ v' M', e = .returned (.tuple #[vagg v', .int .i64 0]) ∧ VRes most M P v ow 2 v' (l ++ [x]) M' ∧ Stp w w' b most M' F := by
  have hrf := bk_rf hm hP hb (by show 2 ≤ 64; decide)
  by_cases hnf : l.length = 0 ∨ l.length % 32 ≠ 0
  · refine (vPush_tail v l x ow w h hv hl hnf (by have := fresh1_le (M := M) (ow := ow) (i := v.tail); omega) hrf (fun args W => by kernel_rfl)).mono ?_
    rintro e w' ⟨n, M', rfl, hr, hs⟩
    exact ⟨_, M', rfl, (push_tail_res hb hv hl hnf hr).weak (by decide), hs⟩
  · have hnf' : 0 < l.length ∧ l.length % 32 = 0 := by omega
    refine (vPush_full v l x ow w h hv hl hnf' (by have := fresh1_le (M := M) (ow := ow) (i := v.root); omega) hrf (fun args W => by kernel_rfl) (fun args W => by kernel_rfl)).mono ?_
    rintro e w' ⟨r, n, M1, M', rfl, hr, hr2, hs⟩
    exact ⟨_, M', rfl, push_full_res hb hv hl hnf' hr hr2, hs⟩
theorem pop_bk (v : Vc) (l : Vs) (ow : Int) (w : World) (h : Ar w b most M F) (hm : most ≤ 1048576) (hP : ∀ j, P j ≤ 576460752303423488) (hb : Bk (most + 1) M [] P [v.root, v.tail]) (hv : VecIs M v l) (hl : l ≠ []) (hroom : live (most + 1) M + 2 ≤ most) :
    Calls Try.prog 18 #[ap b, vagg v, .int .u32 ow] w fun e w' => ∃ v' M', e = .returned (.tuple #[vagg v', .int .i64 0]) ∧ VRes most M P v ow 2 v' l.dropLast M' ∧ Stp w w' b most M' F := by
  have hrf := bk_rf hm hP hb (by show 2 ≤ 64; decide)
  have hz := hb.zero
  have hle := hv.le
  have hl0 : 0 < l.length := List.length_pos_iff.2 hl
  by_cases hs1 : l.length % 32 = 1
  · refine (vPop_zero v l ow (fun v' M' => VRes most M P v ow 2 v' l.dropLast M') w h hv hl hs1 (fun W hW => ?_))
    have hvn : v.n = (l.length - 1) + 1 := by have := hv.n; omega
    by_cases h33 : l.length ≤ 33
    · have hk : ∃ t, ((contC M v.root).kids = [] ∧ t = 0) ∨ (contC M v.root).kids = [t] := by
        by_cases h32 : 32 < l.length
        · obtain ⟨c, q, e1, e2, e3, e4⟩ := hv.rt h32
          have ec : contC M v.root = c := by unfold contC; rw [e1]
          rw [ec]
          obtain ⟨t, ht⟩ := List.length_eq_one_iff.1 (show c.kids.length = 1 by omega)
          exact ⟨t, .inr ht⟩
        · have e : contC M v.root = ⟨0, 0, 0, [], []⟩ := by unfold contC; rw [hv.r0 (by omega), hz]
          exact ⟨0, .inl ⟨by rw [e], rfl⟩⟩
      obtain ⟨t, hk⟩ := hk
      refine (vpopTail_few v (l.length - 1) ow (contC M v.root) t W hW rfl hvn (by omega) hk hrf).mono ?_
      rintro e w' ⟨M', rfl, hd, hs⟩
      exact ⟨_, M', rfl, (pop_few_res hb hv hvn hl hs1 h33 hk hd).weak (by decide), hs⟩
    · obtain ⟨c, q, e1, e2, e3, e4⟩ := hv.rt (by omega)
      have ec : contC M v.root = c := by unfold contC; rw [e1]
      obtain ⟨lf, hlf⟩ : ∃ lf, c.kids.length = lf + 1 := ⟨c.kids.length - 1, by omega⟩
      obtain ⟨t, ht⟩ : ∃ t, c.kids[lf]? = some t := ⟨_, List.getElem?_eq_getElem (by omega)⟩
      refine (vpopTail_many v (l.length - 1) lf ow c t W hW ec hvn (by omega) hlf (by omega) (by omega) e2 ht (good_kids fun y hy h0 => ?_) (by have := fresh1_le (M := M) (ow := ow) (i := v.root); omega) hrf (fun args W => by kernel_rfl)).mono ?_
      · have hyc : y ∈ c.kids := List.mem_of_mem_take hy
        obtain ⟨k, hk⟩ := List.getElem?_of_mem hyc
        obtain ⟨c', q', e', _⟩ := e4 k y hk
        rw [e']; simp
      · rintro e w' ⟨r, M1, M', rfl, hr, hd, hs⟩
        rw [← ec] at hr hlf ht
        exact ⟨_, M', rfl, (pop_many_res hb hv hvn hs1 (by omega) hlf ht hr hd).weak (by decide), hs⟩
  · refine (vPop_tail v l ow w h hv hl hs1 (by have := fresh1_le (M := M) (ow := ow) (i := v.tail); omega) hrf (fun args W => by kernel_rfl)).mono ?_
    rintro e w' ⟨n, M', rfl, hr, hs⟩
    exact ⟨_, M', rfl, (pop_tail_res hb hv hl hs1 hr).weak (by decide), hs⟩
theorem set_bk (v : Vc) (l : Vs) (i : Nat) (x : Int × Int × ByteArray) (ow : Int) (w : World) (h : Ar w b most M F) (hm : most ≤ 1048576) (hP : ∀ j, P j ≤ 576460752303423488) (hb : Bk (most + 1) M [] P [v.root, v.tail]) (hv : VecIs M v l) (hi : i < l.length) (hroom : live (most + 1) M + 2 ≤ most) :
    Calls Try.prog 16 #[ap b, vagg v, .int .i64 i, xagg x, .int .u32 ow] w fun e w' => ∃ v' M', e = .returned (.tuple #[vagg v', .int .i64 0]) ∧ VRes most M P v ow 2 v' (l.set i x) M' ∧ Stp w w' b most M' F := by
  by_cases hq : i / 32 = (l.length - 1) / 32
  · refine (set_tail_bk v l i x ow w h hm hP hb hv hi hq (by omega)).mono ?_
    rintro e w' ⟨v', M', rfl, hr, hs⟩
    exact ⟨v', M', rfl, hr.weak (by decide), hs⟩
  · exact set_kid_bk v l i x ow w h hm hP hb hv hi hq hroom

theorem live_sub {N : Nat} {A B : Cells} (hs : Sub B A) : live N B ≤ live N A := live_mono fun _ hj e => hj (hs.none e)
theorem drop_bk (v : Vc) (w : World) (h : Ar w b most M F) (hm : most ≤ 1048576) (hP : ∀ j, P j ≤ 576460752303423488) (hb : Bk (most + 1) M [] P [v.root, v.tail]) :
    Calls Try.prog 20 #[ap b, vagg v] w fun e w' => e = .returned (.tuple #[]) ∧ ∃ M', Bk (most + 1) M' [] P [] ∧ Keeps P M M' ∧ live (most + 1) M' ≤ live (most + 1) M ∧ Stp w w' b most M' F := by
  refine (vdrop v w h (fun j => Nat.le_trans (bk_rf hm hP hb (by show 2 ≤ 64; decide) j) (by decide))).mono ?_
  rintro e w' ⟨rfl, M1, M2, hd1, hd2, hs⟩
  obtain ⟨b1, s1, _⟩ := hb.drop hd1
  obtain ⟨b2, s2, _⟩ := b1.drop hd2
  rw [blank_nil, blank_nil] at s1 s2
  have o1 := b1.ok
  have o2 := b2.ok
  rw [blank_nil] at o1 o2
  exact ⟨rfl, M2, b2, fun r h0 hr => (Pres.sub s1 o1 (b1.held hr h0)).trans (Pres.sub s2 o2 (b2.held hr h0)), Nat.le_trans (live_sub s2) (live_sub s1), hs⟩
theorem keep_bk (v : Vc) (w : World) (h : Ar w b most M F) (hm : most ≤ 1048576) (hP : ∀ j, P j ≤ 576460752303423488) (hb : Bk (most + 1) M [] P [v.root, v.tail]) :
    Calls Try.prog 19 #[ap b, vagg v] w fun e w' => e = .returned (.tuple #[]) ∧ ∃ M', Bk (most + 1) M' [] (addP (addP P v.root) v.tail) [v.root, v.tail] ∧ (∀ r, Pres M M' r) ∧ live (most + 1) M' = live (most + 1) M ∧ Stp w w' b most M' F := by
  refine (vkeep v w h (fun j => Nat.le_trans (bk_rf hm hP hb (by show 2 ≤ 64; decide) j) (by decide))).mono ?_
  rintro e w' ⟨rfl, hs⟩
  have hb' := hb.begun 0
  have hl : live (most + 1) (begun M v 0) = live (most + 1) M := begun_live
  exact ⟨rfl, begun M v 0, hb', fun r => pres_begun r, hl, hs⟩
end

end Go.Proofs.Ytgkhbnkbhcginaa

/- Package slice: part and All. -/
import Derived.Test.YtjdpgehmkcdmfaaOwn06
namespace Go.Proofs.Ytjdpgehmkcdmfaa
open Go.RowKit

section
variable {b most : Nat} {M : Cells} {F : Nat → Prop}
/-- In the loop: these values are told so far. -/
structure Pt (w wr : World) (z5 : Nat) (v : Vc) (x : Value) (n : Nat) (xs : Vs) : Prop where
  bel : Below w.heap.size w wr
  c3 : C3 wr z5 30 (.int .i64 (v.n : Int)) (.int .i64 (v.root : Int)) (.int .i64 (v.tail : Int))
  own : wr.ownsRow w.heap.size 38 3 x n (xs.flatMap cells3)
def Told (w : World) (xs : Vs) (e : Ending) (w' : World) : Prop := ∃ x, e = .returned x ∧ w'.ownsRow w.heap.size 38 3 x xs.length (xs.flatMap cells3) ∧ Below w.heap.size w w'
set_option maxRecDepth 100000 in
set_option maxHeartbeats 1600000 in
theorem vpart (v : Vc) (l : Vs) (f t : Nat) (w : World) (h : Ar w b most M F) (hv : VecIs M v l) (hft : f ≤ t) (ht : t ≤ l.length) :
    Calls Try.prog 62 #[ap b, vagg v, .int .i64 f, .int .i64 t] w (Told w ((l.drop f).take (t - f))) := by
  obtain ⟨i1, hi1, hy0, hy1, hy2⟩ := info_parts vinfo
  have hle := hv.le
  have hmin : ¬ (1024 : Int) < (t : Int) := by omega
  have hmin2 : (t : Int) ≤ 1024 := by omega
  have HA := Lib.hid h
  have HV := Lib.hid hv
  have q5 := C3.new w 30 (.int .i64 (v.n : Int)) (.int .i64 (v.root : Int)) (.int .i64 (v.tail : Int))
  have HP := Lib.hid (Pt.mk (w := w) (x := .slice none 0 0) (n := 0) (xs := []) ((Below.refl _ w).alloc (Nat.le_refl _) _) q5 (World.ownsRow_nil _ _ _ _))
  clear h hv q5
  go_enter Try.func62, Try.ntmps62
  go_wp2_with fail
  obtain ⟨z5, hz5⟩ : ∃ z, z = w.heap.size := ⟨_, rfl⟩
  rw [← hz5] at ⊢
  rw [show (w.heap.size : Nat) = w.heap.size from rfl] at HP
  have HP' := Lib.hid (hz5 ▸ HP.out : Pt w (w.alloc (.cells #[.int .i64 (v.n : Int), .int .i64 (v.root : Int), .int .i64 (v.tail : Int)] 30)) z5 v (.slice none 0 0) 0 [])
  clear hz5 HP
  go_loopg [9, 10] (t - f) (fun c' s i wr => ∃ k : Nat, k + c' = t ∧ f ≤ k ∧ i = .int .i64 (k : Nat) ∧ Pt w wr z5 v s (k - f) (((l.drop f).take (t - f)).take (k - f)))
  case atStart => exact ⟨f, by omega, Nat.le_refl _, rfl, by rw [Nat.sub_self]; exact HP'.out⟩
  case round =>
    obtain ⟨k, hj, hfk, rfl, hP⟩ := hrel
    obtain ⟨A1, m1, rfl, _⟩ := (Rd.of_own hP.own).form
    by_cases h1 : k < t
    · obtain ⟨x, hx⟩ : ∃ x, l[k]? = some x := ⟨_, List.getElem?_eq_getElem (show k < l.length by omega)⟩
      have hxs := Lib.hid (show (((l.drop f).take (t - f)).take (k - f)) ++ [x] = ((l.drop f).take (t - f)).take (k + 1 - f) by
        rw [show k + 1 - f = (k - f) + 1 by omega, List.take_add_one, List.getElem?_take_of_lt (by omega), List.getElem?_drop, show f + (k - f) = k by omega, hx]; rfl)
      have HX := Lib.hid hx
      have HB := Lib.hid hP.bel
      have h5 := hP.c3
      have H5 := Lib.hid h5
      have HO := Lib.hid hP.own
      obtain ⟨a0, a1, a2, _⟩ := h5.all
      have H1 := Lib.hid (And.intro hj (And.intro h1 hfk))
      clear hP hx h5 hj
      go_wp2_with fail
      refine (vGet v l k x wr (HA.out.below HB.out) HV.out HX.out).mono ?_
      rintro e w2 ⟨rfl, hb2⟩
      have HB2 := Lib.hid (HB.out.trans (hb2.mono HB.out.size))
      have H52 := Lib.hid (H5.out.below hb2)
      have HO2 := Lib.hid ((Kp.of_below hb2 (fun _ => False)).own HO.out (fun _ _ => id))
      have hs := HB2.out.size
      clear a0 a1 a2 hb2 HB H5 HO
      go_wp2_with (at_builtin; refine wpList_append_rd rfl _ _ 31 rfl w.heap.size 38 i1 _ 3 32 Try.underlying31 hi1 hy0 hy1 hy2 rfl (by decide) (.slice A1 (k - f) m1) (k - f) ((((l.drop f).take (t - f)).take (k - f)).flatMap cells3) rfl ?k0 _ 1 [.int .u8 x.1, .int .i64 x.2.1, .string x.2.2] rfl ?k1 rfl (by simp [Value.oneCell']) ?k2 ?k3 ?k4 ?_)
      case k0 => exact (Kp.of_below (((Below.refl _ w2).alloc (Nat.le_refl _) _).alloc (by simp) _) (fun _ => False)).own HO2.out (fun _ _ => id)
      case k1 => exact rd_three _ _ _ _ _ _ (by simp)
      case k2 => unfold maxLen; omega
      case k3 => omega
      case k4 => simp; omega
      intro v' w' hown hg hat
      obtain ⟨A3, m3, rfl, _⟩ := (Rd.of_own hown).form
      have hne : ∀ q, (Value.slice A1 (k - f) m1).ownBlock = some q → w.heap.size ≤ q ∧ q < w2.heap.size := fun q hq => HO2.out.lt q hq
      have hb3 : Below w2.heap.size w2 ((w2.alloc (.cells #[.int .u8 x.1, .int .i64 x.2.1, .string x.2.2] 38)).alloc (.cells #[.int .u8 x.1, .int .i64 x.2.1, .string x.2.2] 38)) := ((Below.refl _ w2).alloc (Nat.le_refl _) _).alloc (by simp) _
      have HB3 := Lib.hid ((HB2.out.trans (hb3.mono HB2.out.size)).grown hg (HB2.out.trans (hb3.mono HB2.out.size)).size (fun q e => (hne q e).1))
      have hn5 := own_ne HO2.out H52.out (by decide)
      have H53 := Lib.hid (show C3 w' z5 30 (.int .i64 (v.n : Int)) (.int .i64 (v.root : Int)) (.int .i64 (v.tail : Int)) from (Kp.of_grown (F := fun q => (Value.slice A1 (k - f) m1).ownBlock = some q) hg (fun q e => .inl e)).at (H52.out.below hb3) (fun e => hn5 _ e rfl))
      have HO3 := Lib.hid hown
      clear hg hat hown hne hb3 hn5
      go_wp2_with fail
      go_roundg (t - (k + 1))
      case measure => have := H1.out; omega
      case rel =>
        refine ⟨k + 1, by have := H1.out; omega, by have := H1.out; omega, by go_num, HB3.out, H53.out, ?_⟩
        rw [← hxs.out, List.flatMap_append, List.flatMap_singleton, show k + 1 - f = k - f + 1 by have := H1.out; omega]
        exact HO3.out
    · obtain rfl : k = t := by omega
      have HB := Lib.hid hP.bel
      have ho := hP.own
      rw [List.take_of_length_le (show (List.take (k - f) (List.drop f l)).length ≤ k - f by rw [List.length_take]; omega)] at ho
      have hlen : ((l.drop f).take (k - f)).length = k - f := by rw [List.length_take, List.length_drop]; omega
      have HO := Lib.hid (show wr.ownsRow w.heap.size 38 3 (.slice A1 (k - f) m1) ((l.drop f).take (k - f)).length (((l.drop f).take (k - f)).flatMap cells3) by rw [hlen]; exact ho)
      clear ho hP hlen
      go_wp2_with fail
      go_ret
      exact ⟨_, rfl, HO.out, HB.out⟩
set_option maxRecDepth 100000 in
theorem vall (v : Vc) (l : Vs) (w : World) (h : Ar w b most M F) (hv : VecIs M v l) :
    Calls Try.prog 33 #[ap b, vagg v] w (Told w l) := by
  have hn := hv.n
  have hp := vpart v l 0 v.n (w.alloc (.cells #[.int .i64 (v.n : Int), .int .i64 (v.root : Int), .int .i64 (v.tail : Int)] 30)) (h.alloc _) hv (Nat.zero_le _) (by omega)
  rw [List.drop_zero, List.take_of_length_le (by omega)] at hp
  have HP := Lib.hid hp
  clear hp h hv hn
  go_enter Try.func33, Try.ntmps33
  go_wp2_with fail
  refine HP.out.mono ?_
  rintro e w2 ⟨x, rfl, ho, hb⟩
  have hb1 : Below w.heap.size w (w.alloc (.cells #[.int .i64 (v.n : Int), .int .i64 (v.root : Int), .int .i64 (v.tail : Int)] 30)) := (Below.refl _ w).alloc (Nat.le_refl _) _
  have HO := Lib.hid (own_less ho hb1.size)
  have HB := Lib.hid (hb1.trans (hb.mono hb1.size))
  obtain ⟨A1, m1, rfl, _⟩ := (Rd.of_own ho).form
  clear ho hb hb1 HP
  go_wp2_with fail
  go_ret
  exact ⟨_, rfl, HO.out, HB.out⟩
end

end Go.Proofs.Ytjdpgehmkcdmfaa

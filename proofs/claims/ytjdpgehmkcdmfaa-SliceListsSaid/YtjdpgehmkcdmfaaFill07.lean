/- Layer 7's helpers: fill (a list, again and again); Equal of two equal lists; Number. -/
import Derived.Test.YtjdpgehmkcdmfaaOwn06
namespace Go.Proofs.Ytjdpgehmkcdmfaa
open Go.RowKit

/-- The i-th value. -/
def fillX (l : Vs) (i : Nat) : Int × Int × ByteArray := (((l[i % l.length]?).getD (0, 0, ⟨#[]⟩)).1, wrap64 (((l[i % l.length]?).getD (0, 0, ⟨#[]⟩)).2.1 + i), ((l[i % l.length]?).getD (0, 0, ⟨#[]⟩)).2.2)
def fillN (l : Vs) (n : Nat) : Vs := (List.range n).map (fillX l)
theorem fillN_length (l : Vs) (n : Nat) : (fillN l n).length = n := by simp [fillN]
theorem fillN_succ (l : Vs) (n : Nat) : fillN l (n + 1) = fillN l n ++ [fillX l n] := by simp [fillN, List.range_succ]

theorem vnumber (n : Int) (w : World) : Calls Try.prog 24 #[.int .i64 n] w fun e w' => e = .returned (xagg (2, n, ⟨#[]⟩)) ∧ Below w.heap.size w w' := by
  go_enter Try.func24, Try.ntmps24
  go_wp2_with fail
  exact bodyPost_ret (v := xagg (2, n, ⟨#[]⟩)) (by simp [results, Try.results24, go_sem]) rfl ⟨rfl, (Below.refl _ w).alloc (Nat.le_refl _) _⟩

set_option maxRecDepth 100000 in
set_option maxHeartbeats 1600000 in
/-- Two rows that read alike are equal. -/
theorem vequal (l : Vs) (v1 v2 : Value) (w : World) (h1 : Rd w v1 l.length (l.flatMap cells3)) (h2 : Rd w v2 l.length (l.flatMap cells3)) (hl : l.length ≤ 1000000) :
    Calls Try.prog 32 #[v1, v2] w fun e w' => e = .returned (.bool true) ∧ Below w.heap.size w w' := by
  obtain ⟨A1, c1, rfl, hc1⟩ := h1.form
  obtain ⟨A2, c2, rfl, hc2⟩ := h2.form
  have H1 := Lib.hid h1
  have H2 := Lib.hid h2
  clear h1 h2
  go_enter Try.func32, Try.ntmps32
  go_wp2_with fail
  go_loopg [13] l.length (fun c' i wr => ∃ j : Nat, j + c' = l.length ∧ i = .int .i64 j ∧ Below w.heap.size w wr)
  case atStart => exact ⟨0, by omega, rfl, Below.refl _ _⟩
  case round =>
    obtain ⟨j, hj, rfl, hb⟩ := hrel
    by_cases hlt : j < l.length
    · obtain ⟨x, hx⟩ : ∃ x, l[j]? = some x := ⟨_, List.getElem?_eq_getElem hlt⟩
      obtain ⟨g1, o1, rfl, k1, x0, x1, x2⟩ := rd3 (H1.out.below hb) hx
      obtain ⟨g2, o2, rfl, k2, y0, y1, y2⟩ := rd3 (H2.out.below hb) hx
      have HB := Lib.hid hb
      have HJ := Lib.hid (And.intro hj hlt)
      have y3 : (0 : Int) ≤ (j : Int) := by omega
      have y4 : (j : Int) < (l.length : Int) := by omega
      clear hb hx hj
      go_wp2_with fail
      go_quiet (fail)
      go_wp2_with fail
      go_roundg (l.length - (j + 1))
      case measure => have := HJ.out; omega
      case rel => exact ⟨j + 1, by have := HJ.out; omega, by go_num, HB.out.trans ((below_drewN _ _).mono HB.out.size)⟩
    · obtain rfl : j = l.length := by omega
      have HB := Lib.hid hb
      clear hb
      go_wp2_with fail
      go_ret
      exact ⟨rfl, HB.out⟩

/-- In the loop: so many are there. -/
structure Fl (w wr : World) (l : Vs) (x : Value) (n : Nat) : Prop where
  bel : Below w.heap.size w wr
  own : wr.ownsRow w.heap.size 38 3 x n ((fillN l n).flatMap cells3)
set_option maxRecDepth 100000 in
set_option maxHeartbeats 1600000 in
theorem vfill (l : Vs) (n : Nat) (A : Option Addr) (c : Nat) (w : World) (hv : Lst w A l) (hn : n ≤ 1100) (hl : l.length ≤ 1000000) :
    Calls Try.prog 30 #[.slice A l.length c, .int .i64 n] w fun e w' => ∃ x, e = .returned x ∧ w'.ownsRow w.heap.size 38 3 x n ((fillN l n).flatMap cells3) ∧ Below w.heap.size w w' := by
  obtain ⟨i1, hi1, hy0, hy1, hy2⟩ := info_parts vinfo
  have HV := Lib.hid hv
  have HP := Lib.hid (Fl.mk (w := w) (l := l) (x := .slice none 0 0) (n := 0) (Below.refl _ w) (World.ownsRow_nil _ _ _ _))
  clear hv
  go_enter Try.func30, Try.ntmps30
  go_wp2_with fail
  go_loopg [5, 9] n (fun c' s i wr => ∃ k : Nat, k + c' = n ∧ i = .int .i64 (k : Nat) ∧ Fl w wr l s k)
  case atStart => exact ⟨0, by omega, rfl, HP.out⟩
  case round =>
    obtain ⟨k, hj, rfl, hP⟩ := hrel
    obtain ⟨A1, m1, rfl, _⟩ := (Rd.of_own hP.own).form
    by_cases h1 : k < n
    · have HB := Lib.hid hP.bel
      have HO := Lib.hid hP.own
      have HJ := Lib.hid (And.intro hj h1)
      have hsz := HB.out.size
      rcases Nat.eq_zero_or_pos l.length with h0 | h0
      · have hl0 : l = [] := List.eq_nil_of_length_eq_zero h0
        have HXE := Lib.hid (show fillX l k = (0, (k : Int), ⟨#[]⟩) by rw [hl0]; show (0, wrap64 (0 + (k : Int)), _) = _; rw [Int.zero_add, IntWalk.wrap64_in _ (by omega)]; rfl)
        have h0' : ¬ (0 : Int) < (l.length : Int) := by omega
        clear hP hj hl0 h0
        go_wp2_with (at_builtin; refine wpList_append_rd rfl _ _ 31 rfl w.heap.size 38 i1 _ 3 32 Try.underlying31 hi1 hy0 hy1 hy2 rfl (by decide) (.slice A1 k m1) k ((fillN l k).flatMap cells3) rfl ?k0 _ 1 [.int .u8 0, .int .i64 (k : Int), .string ⟨#[]⟩] rfl ?k1 rfl (by simp [Value.oneCell']) ?k2 ?k3 ?k4 ?_)
        case k0 => exact (Kp.of_below (((Below.refl _ wr).alloc (Nat.le_refl _) _).alloc (by simp) _) (fun _ => False)).own HO.out (fun _ _ => id)
        case k1 => exact rd_three _ _ _ _ _ _ (by simp)
        case k2 => unfold maxLen; omega
        case k3 => omega
        case k4 => first | omega | (simp; omega)
        intro v' w' hown hg hat
        obtain ⟨A3, m3, rfl, _⟩ := (Rd.of_own hown).form
        have hne : ∀ q, (Value.slice A1 k m1).ownBlock = some q → w.heap.size ≤ q ∧ q < wr.heap.size := fun q hq => HO.out.lt q hq
        have hb3 : Below wr.heap.size wr ((wr.alloc (.cells #[.int .u8 0, .int .i64 (k : Int), .string ⟨#[]⟩] 38)).alloc (.cells #[.int .u8 0, .int .i64 (k : Int), .string ⟨#[]⟩] 38)) := ((Below.refl _ wr).alloc (Nat.le_refl _) _).alloc (by simp) _
        have HB3 := Lib.hid ((HB.out.trans (hb3.mono HB.out.size)).grown hg (HB.out.trans (hb3.mono HB.out.size)).size (fun q e => (hne q e).1))
        have HO3 := Lib.hid hown
        clear hg hat hown hne hb3
        go_wp2_with fail
        go_roundg (n - (k + 1))
        case measure => have := HJ.out; omega
        case rel =>
          refine ⟨k + 1, by have := HJ.out; omega, by go_num, HB3.out, ?_⟩
          rw [fillN_succ, List.flatMap_append, List.flatMap_singleton, HXE.out]
          exact HO3.out

      · obtain ⟨q, hq⟩ : ∃ q, q = k % l.length := ⟨_, rfl⟩
        have hql : q < l.length := by rw [hq]; exact Nat.mod_lt _ h0
        obtain ⟨x, hx⟩ : ∃ x, l[q]? = some x := ⟨_, List.getElem?_eq_getElem hql⟩
        have HXE := Lib.hid (show fillX l k = (x.1, wrap64 (x.2.1 + (k : Int)), x.2.2) by unfold fillX; rw [← hq, hx]; rfl)
        have hqi : (k : Int).tmod (l.length : Int) = (q : Int) := by rw [hq, Int.tmod_eq_emod_of_nonneg (by omega)]; rfl
        have h0' : (0 : Int) < (l.length : Int) := by omega
        have h0'' : ¬ (l.length : Int) = 0 := by omega
        obtain ⟨g1, o1, rfl, k1, x0, x1, x2⟩ := (HV.out.below HB.out).at hx
        have y3 : (0 : Int) ≤ (q : Int) := by omega
        have y4 : (q : Int) < (l.length : Int) := by omega
        clear hP hj h0 hx hq
        go_wp2_with (at_builtin; refine wpList_append_rd rfl _ _ 31 rfl w.heap.size 38 i1 _ 3 32 Try.underlying31 hi1 hy0 hy1 hy2 rfl (by decide) (.slice A1 k m1) k ((fillN l k).flatMap cells3) rfl ?k0 _ 1 [.int .u8 x.1, .int .i64 (wrap64 (x.2.1 + (k : Int))), .string x.2.2] rfl ?k1 rfl (by simp [Value.oneCell']) ?k2 ?k3 ?k4 ?_)
        case k0 => exact (Kp.of_below (((Below.refl _ wr).alloc (Nat.le_refl _) _).alloc (by simp) _) (fun _ => False)).own HO.out (fun _ _ => id)
        case k1 => exact rd_three _ _ _ _ _ _ (by simp)
        case k2 => unfold maxLen; omega
        case k3 => omega
        case k4 => first | omega | (simp; omega)
        intro v' w' hown hg hat
        obtain ⟨A3, m3, rfl, _⟩ := (Rd.of_own hown).form
        have hne : ∀ q, (Value.slice A1 k m1).ownBlock = some q → w.heap.size ≤ q ∧ q < wr.heap.size := fun q hq => HO.out.lt q hq
        have hb3 : Below wr.heap.size wr ((wr.alloc (.cells #[.int .u8 x.1, .int .i64 (wrap64 (x.2.1 + (k : Int))), .string x.2.2] 38)).alloc (.cells #[.int .u8 x.1, .int .i64 (wrap64 (x.2.1 + (k : Int))), .string x.2.2] 38)) := ((Below.refl _ wr).alloc (Nat.le_refl _) _).alloc (by simp) _
        have HB3 := Lib.hid ((HB.out.trans (hb3.mono HB.out.size)).grown hg (HB.out.trans (hb3.mono HB.out.size)).size (fun q e => (hne q e).1))
        have HO3 := Lib.hid hown
        clear hg hat hown hne hb3
        go_wp2_with fail
        go_roundg (n - (k + 1))
        case measure => have := HJ.out; omega
        case rel =>
          refine ⟨k + 1, by have := HJ.out; omega, by go_num, HB3.out, ?_⟩
          rw [fillN_succ, List.flatMap_append, List.flatMap_singleton, HXE.out]
          exact HO3.out

    · obtain rfl : k = n := by omega
      have HB := Lib.hid hP.bel
      have HO := Lib.hid hP.own
      clear hP
      go_wp2_with fail
      go_ret
      exact ⟨_, rfl, HO.out, HB.out⟩

def Fitd (l : Vs) (w : World) (e : Ending) (w' : World) : Prop := ∃ r : Bool, e = .returned (.bool r) ∧ (r = true → l.length ≤ 60) ∧ Below w.heap.size w w'
set_option maxRecDepth 100000 in
/-- Of a size with which this is tried. -/
theorem vfits (l : Vs) (A : Option Addr) (c : Nat) (w : World) (hv : Lst w A l) (hl : l.length ≤ 4398046511104) :
    Calls Try.prog 29 #[.slice A l.length c] w (Fitd l w) := by
  have HV := Lib.hid hv
  clear hv
  go_enter Try.func29, Try.ntmps29
  go_wp2_with fail
  go_loopg [7] l.length (fun c' i wr => ∃ j : Nat, j + c' = l.length ∧ i = .int .i64 j ∧ Below w.heap.size w wr)
  case atStart => exact ⟨0, by omega, rfl, Below.refl _ _⟩
  case round =>
    obtain ⟨j, hj, rfl, hb⟩ := hrel
    by_cases hlt : j < l.length
    · obtain ⟨x, hx⟩ : ∃ x, l[j]? = some x := ⟨_, List.getElem?_eq_getElem hlt⟩
      obtain ⟨g1, o1, rfl, k1, x0, x1, x2⟩ := (HV.out.below hb).at hx
      have HB := Lib.hid hb
      have HJ := Lib.hid (And.intro hj hlt)
      have y3 : (0 : Int) ≤ (j : Int) := by omega
      have y4 : (j : Int) < (l.length : Int) := by omega
      clear hb hx hj
      by_cases h50 : (50 : Int) < (x.2.2.size : Int)
      · go_wp2_with fail
        go_ret
        exact ⟨false, rfl, (fun h => by cases h), HB.out.alloc HB.out.size _⟩
      · go_wp2_with fail
        go_roundg (l.length - (j + 1))
        case measure => have := HJ.out; omega
        case rel => exact ⟨j + 1, by have := HJ.out; omega, by go_num, HB.out.alloc HB.out.size _⟩
    · obtain rfl : j = l.length := by omega
      have HB := Lib.hid hb
      clear hb
      by_cases h60 : (l.length : Int) ≤ 60
      · go_wp2_with fail
        go_ret
        exact ⟨true, rfl, (fun _ => by omega), HB.out⟩
      · go_wp2_with fail
        go_ret
        exact ⟨false, rfl, (fun h => by cases h), HB.out⟩

end Go.Proofs.Ytjdpgehmkcdmfaa

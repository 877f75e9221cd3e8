/- slices.Concat of two slices of values. -/
import Derived.Test.YtjdpgehmkcdmfaaGrow07
namespace Go.Proofs.Ytjdpgehmkcdmfaa
open Go.RowKit

/-- So many of two. -/
def upTo (a b j : Nat) : Nat := if j = 0 then 0 else if j = 1 then a else a + b
def upL (a b : Vs) (j : Nat) : Vs := if j = 0 then [] else if j = 1 then a else a ++ b
structure Ct (w wr : World) (x : Value) (n : Nat) (xs : Vs) : Prop where
  bel : Below w.heap.size w wr
  own : wr.ownsRow w.heap.size 38 3 x n (xs.flatMap cells3)
set_option maxRecDepth 100000 in
set_option maxHeartbeats 1600000 in
theorem vconcat (g : Nat) (A1 A2 : Option Addr) (c1 c2 : Nat) (l1 l2 : Vs) (w : World) (hg0 : w.cell? ⟨g, 0, none⟩ = some (.slice A1 l1.length c1)) (hg1 : w.cell? ⟨g, 1, none⟩ = some (.slice A2 l2.length c2))
    (h1 : Rd w (.slice A1 l1.length c1) l1.length (l1.flatMap cells3)) (h2 : Rd w (.slice A2 l2.length c2) l2.length (l2.flatMap cells3)) (hl1 : l1.length ≤ 10000) (hl2 : l2.length ≤ 10000) :
    Calls Try.prog 37 #[.slice (some ⟨g, 0, none⟩) 2 2] w fun e w' => ∃ x, e = .returned x ∧ w'.ownsRow w.heap.size 38 3 x (l1 ++ l2).length ((l1 ++ l2).flatMap cells3) ∧ Below w.heap.size w w' := by
  obtain ⟨i1, hi1, hy0, hy1, hy2⟩ := info_parts vinfo
  have H1 := Lib.hid h1
  have H2 := Lib.hid h2
  have hgl : g < w.heap.size := World.block_lt_of_cell? w _ hg0
  have HG0 := Lib.hid hg0
  have HG1 := Lib.hid hg1
  clear h1 h2 hg0 hg1
  go_enter Try.func37, Try.ntmps37
  go_wp2_with fail
  go_loopg [3, 11] 2 (fun c' s i wr => ∃ j : Nat, j + c' = 2 ∧ i = .int .i64 j ∧ s = .int .i64 (upTo l1.length l2.length j : Nat) ∧ w = wr)
  case atStart => exact ⟨0, by omega, rfl, rfl, rfl⟩
  case round =>
    obtain ⟨j, hj, rfl, rfl, rfl⟩ := hrel
    have e0 : upTo l1.length l2.length 0 = 0 := rfl
    have e1 : upTo l1.length l2.length 1 = l1.length := rfl
    have e2 : upTo l1.length l2.length 2 = l1.length + l2.length := rfl
    obtain rfl | rfl | rfl : j = 0 ∨ j = 1 ∨ j = 2 := by omega
    · rw [e0]
      have x0 := HG0.out
      go_wp2_with fail
      go_roundg 1
      case measure => omega
      case rel => exact ⟨1, rfl, rfl, by rw [e1], rfl⟩
    · rw [e1]
      have x0 := HG1.out
      go_wp2_with fail
      go_roundg 0
      case measure => omega
      case rel => exact ⟨2, rfl, rfl, by rw [e2]; rfl, rfl⟩
    · rw [e2]
      clear e0 e1 e2 hj
      obtain ⟨n, hn⟩ : ∃ n, n = l1.length + l2.length := ⟨_, rfl⟩
      rw [← hn]
      have hn2 : n ≤ 100000 := by omega
      clear hn
      go_wp2_with fail
      refine (vgrow n hn2 w).mono ?_
      rintro e w2 ⟨x, rfl, ho, hb⟩
      obtain ⟨A3, m3, rfl, _⟩ := (Rd.of_own ho).form
      have HC := Lib.hid (Ct.mk (xs := []) hb ho)
      clear ho hb
      go_wp2_with fail
      go_loopg [6, 27] 2 (fun c' s i wq => ∃ j : Nat, j + c' = 2 ∧ i = .int .i64 j ∧ Ct w wq s (upTo l1.length l2.length j) (upL l1 l2 j))
      case atStart => exact ⟨0, by omega, rfl, HC.out⟩
      case round =>
        obtain ⟨j, hj, rfl, hC⟩ := hrel
        have HC2 := Lib.hid hC
        obtain ⟨A4, m4, rfl, _⟩ := (Rd.of_own hC.own).form
        clear hC HC
        have e0 : upTo l1.length l2.length 0 = 0 := rfl
        have e1 : upTo l1.length l2.length 1 = l1.length := rfl
        have e2 : upTo l1.length l2.length 2 = l1.length + l2.length := rfl
        have hs := HC2.out.bel.size
        obtain rfl | rfl | rfl : j = 0 ∨ j = 1 ∨ j = 2 := by omega
        · rw [e0] at HC2 ⊢
          have x0 := (HC2.out.bel.cell (p := ⟨g, 0, none⟩) hgl).trans HG0.out
          go_wp2_with (at_builtin; refine wpList_append_rd rfl _ _ 31 rfl w.heap.size 38 i1 _ 3 32 Try.underlying31 hi1 hy0 hy1 hy2 rfl (by decide) (.slice A4 0 m4) 0 ((upL l1 l2 0).flatMap cells3) rfl ?k0 (.slice A1 l1.length c1) l1.length (l1.flatMap cells3) rfl ?k1 (flat_len l1) (flat_one l1) ?k2 ?k3 ?k4 ?_)
          case k0 => exact HC2.out.own
          case k1 => exact H1.out.below HC2.out.bel
          case k2 => unfold maxLen; omega
          case k3 => omega
          case k4 => exact hs
          intro v' w' hown hgr hat
          obtain ⟨A5, m5, rfl, _⟩ := (Rd.of_own hown).form
          have HC3 := Lib.hid (show Ct w w' (.slice A5 l1.length m5) (upTo l1.length l2.length 1) (upL l1 l2 1) from ⟨HC2.out.bel.grown hgr hs (fun q e => (HC2.out.own.lt q e).1), by rw [e1, show upL l1 l2 1 = l1 from rfl]; have := hown; rw [show (upL l1 l2 0).flatMap cells3 = [] from rfl, List.nil_append] at this; simpa using this⟩)
          clear hown hgr hat HC2
          go_wp2_with fail
          go_roundg 1
          case measure => omega
          case rel => exact ⟨1, rfl, rfl, HC3.out⟩
        · rw [e1] at HC2 ⊢
          have x0 := (HC2.out.bel.cell (p := ⟨g, 1, none⟩) hgl).trans HG1.out
          go_wp2_with (at_builtin; refine wpList_append_rd rfl _ _ 31 rfl w.heap.size 38 i1 _ 3 32 Try.underlying31 hi1 hy0 hy1 hy2 rfl (by decide) (.slice A4 l1.length m4) l1.length ((upL l1 l2 1).flatMap cells3) rfl ?k0 (.slice A2 l2.length c2) l2.length (l2.flatMap cells3) rfl ?k1 (flat_len l2) (flat_one l2) ?k2 ?k3 ?k4 ?_)
          case k0 => exact HC2.out.own
          case k1 => exact H2.out.below HC2.out.bel
          case k2 => unfold maxLen; omega
          case k3 => omega
          case k4 => exact hs
          intro v' w' hown hgr hat
          obtain ⟨A5, m5, rfl, _⟩ := (Rd.of_own hown).form
          have HC3 := Lib.hid (show Ct w w' (.slice A5 (l1.length + l2.length) m5) (upTo l1.length l2.length 2) (upL l1 l2 2) from ⟨HC2.out.bel.grown hgr hs (fun q e => (HC2.out.own.lt q e).1), by rw [e2, show upL l1 l2 2 = l1 ++ l2 from rfl, List.flatMap_append]; exact hown⟩)
          clear hown hgr hat HC2
          go_wp2_with fail
          go_roundg 0
          case measure => omega
          case rel => exact ⟨2, rfl, rfl, HC3.out⟩
        · rw [e2] at HC2 ⊢
          have HE := Lib.hid (show wr.ownsRow w.heap.size 38 3 (.slice A4 (l1.length + l2.length) m4) (l1 ++ l2).length ((l1 ++ l2).flatMap cells3) by rw [List.length_append]; exact HC2.out.own)
          have HB := Lib.hid HC2.out.bel
          clear HC2 e0 e1 e2
          go_wp2_with fail
          go_ret
          exact ⟨_, rfl, HE.out, HB.out⟩

end Go.Proofs.Ytjdpgehmkcdmfaa

/- Package slice: Join of two vectors; Compare. -/
import Derived.Test.YtjdpgehmkcdmfaaCut07
import Derived.Test.YtjdpgehmkcdmfaaConcat07
import Derived.Test.YtjdpgehmkcdmfaaCmp01
namespace Go.Proofs.Ytjdpgehmkcdmfaa
open Go.RowKit

/-- In Join's loop. -/
structure Jt (w wr : World) (z4 : Nat) (x : Value) (n : Nat) (xs : Vs) : Prop where
  bel : Below w.heap.size w wr
  c3 : C3 wr z4 30 (.int .i64 0) (.int .i64 0) (.int .i64 0)
  own : wr.ownsRow w.heap.size 38 3 x n (xs.flatMap cells3)
section
variable {b most : Nat} {M : Cells} {F : Nat → Prop}
theorem Jt.app {w wr w2 w3 : World} {z4 : Nat} {x y : Value} {n : Nat} {xs ys : Vs} (h : Jt w wr z4 x n xs) (hb : Below wr.heap.size wr w2) (hg : w2.grownBy w3 x.ownBlock) (ho : w3.ownsRow w.heap.size 38 3 y (n + ys.length) (xs.flatMap cells3 ++ ys.flatMap cells3)) : Jt w w3 z4 y (n + ys.length) (xs ++ ys) := by
  have hB := h.bel.trans (hb.mono h.bel.size)
  have hn := own_ne ((Kp.of_below hb (fun _ => False)).own h.own (fun _ _ => id)) (h.c3.below hb) (by decide)
  refine ⟨hB.grown hg hB.size (fun q e => (h.own.lt q e).1), (Kp.of_grown (F := fun q => x.ownBlock = some q) hg (fun q e => .inl e)).at (h.c3.below hb) (fun e => hn _ e rfl), ?_⟩
  rw [List.flatMap_append]
  exact ho
set_option maxRecDepth 100000 in
set_option maxHeartbeats 1600000 in
theorem vjoin (g : Nat) (v1 v2 : Vc) (l1 l2 : Vs) (w : World) (h : Ar w b most M F) (hr : ∀ j, rf (M j) ≤ 1000) (hv1 : VecIs M v1 l1) (hv2 : VecIs M v2 l2)
    (hg : (w.cell? ⟨g, 0, none⟩ = some (.int .i64 (v1.n : Int)) ∧ w.cell? ⟨g, 1, none⟩ = some (.int .i64 (v1.root : Int)) ∧ w.cell? ⟨g, 2, none⟩ = some (.int .i64 (v1.tail : Int))) ∧ (w.cell? ⟨g, 3, none⟩ = some (.int .i64 (v2.n : Int)) ∧ w.cell? ⟨g, 4, none⟩ = some (.int .i64 (v2.root : Int)) ∧ w.cell? ⟨g, 5, none⟩ = some (.int .i64 (v2.tail : Int)))) :
    Calls Try.prog 36 #[ap b, .slice (some ⟨g, 0, none⟩) 2 2] w fun e w' => Fromd w w' b most M F (l1 ++ l2) e := by
  obtain ⟨i1, hi1, hy0, hy1, hy2⟩ := info_parts vinfo
  have HF := Lib.hid (show ∀ q, F q → q < w.heap.size from fun q hq => h.lt hq)
  have HA := Lib.hid h
  have HR := Lib.hid hr
  have HV1 := Lib.hid hv1
  have HV2 := Lib.hid hv2
  have hle1 := hv1.le
  have hle2 := hv2.le
  have hgl : g < w.heap.size := World.block_lt_of_cell? w _ hg.1.1
  have HG := Lib.hid hg
  have hb1 : Below w.heap.size w (w.alloc (.cells #[.int .i64 0, .int .i64 0, .int .i64 0] 30)) := (Below.refl _ w).alloc (Nat.le_refl _) _
  have HJ := Lib.hid (Jt.mk (x := .slice none 0 0) (n := 0) (xs := []) hb1 (C3.new w 30 (.int .i64 0) (.int .i64 0) (.int .i64 0)) (World.ownsRow_nil _ _ _ _))
  clear h hr hv1 hv2 hg hb1
  go_enter Try.func36, Try.ntmps36
  go_wp2_with fail
  obtain ⟨z4, hz4⟩ : ∃ z, z = w.heap.size := ⟨_, rfl⟩
  have HJ1 := Lib.hid (hz4 ▸ HJ.out : Jt w (w.alloc (.cells #[.int .i64 0, .int .i64 0, .int .i64 0] 30)) z4 (.slice none 0 0) 0 [])
  rw [← hz4]
  have HZ := Lib.hid (show w.heap.size ≤ z4 by omega)
  clear hz4 HJ
  go_loopg [6, 11] 2 (fun c' s i wr => ∃ j : Nat, j + c' = 2 ∧ i = .int .i64 j ∧ Jt w wr z4 s (upTo l1.length l2.length j) (upL l1 l2 j))
  case atStart => exact ⟨0, by omega, rfl, HJ1.out⟩
  case round =>
    obtain ⟨j, hj, rfl, hC⟩ := hrel
    have HC2 := Lib.hid hC
    obtain ⟨A4, m4, rfl, _⟩ := (Rd.of_own hC.own).form
    clear hC HJ1
    have e0 : upTo l1.length l2.length 0 = 0 := rfl
    have e1 : upTo l1.length l2.length 1 = l1.length := rfl
    have e2 : upTo l1.length l2.length 2 = l1.length + l2.length := rfl
    have hs := HC2.out.bel.size
    obtain rfl | rfl | rfl : j = 0 ∨ j = 1 ∨ j = 2 := by omega
    · rw [e0] at HC2 ⊢
      have x0 := (HC2.out.bel.cell (p := ⟨g, 0, none⟩) hgl).trans HG.out.1.1
      have x1 := (HC2.out.bel.cell (p := ⟨g, 1, none⟩) hgl).trans HG.out.1.2.1
      have x2 := (HC2.out.bel.cell (p := ⟨g, 2, none⟩) hgl).trans HG.out.1.2.2
      have hbw : Below wr.heap.size wr (wr.alloc (.cells #[.int .i64 (v1.n : Int), .int .i64 (v1.root : Int), .int .i64 (v1.tail : Int)] 30)) := (Below.refl _ wr).alloc (Nat.le_refl _) _
      have HBW := Lib.hid hbw
      clear hbw
      go_wp2_with fail
      refine (vall v1 l1 _ ((HA.out.below HC2.out.bel).below HBW.out) HV1.out).mono ?_
      rintro e w2 ⟨y, rfl, hy, hb2⟩
      have HB2 := Lib.hid (HBW.out.trans (hb2.mono HBW.out.size))
      have HY := Lib.hid (Rd.of_own hy)
      obtain ⟨A6, m6, rfl, _⟩ := (Rd.of_own hy).form
      have hs2 : w.heap.size ≤ w2.heap.size := Nat.le_trans hs HB2.out.size
      clear hy hb2 x0 x1 x2
      go_wp2_with (at_builtin; refine wpList_append_rd rfl _ _ 31 rfl w.heap.size 38 i1 _ 3 32 Try.underlying31 hi1 hy0 hy1 hy2 rfl (by decide) (.slice A4 0 m4) 0 ((upL l1 l2 0).flatMap cells3) rfl ?k0 (.slice A6 l1.length m6) l1.length (l1.flatMap cells3) rfl ?k1 (flat_len l1) (flat_one l1) ?k2 ?k3 ?k4 ?_)
      case k0 => exact (Kp.of_below HB2.out (fun _ => False)).own HC2.out.own (fun _ _ => id)
      case k1 => exact HY.out
      case k2 => unfold maxLen; omega
      case k3 => omega
      case k4 => exact hs2
      intro v' w' hown hgr hat
      obtain ⟨A5, m5, rfl, _⟩ := (Rd.of_own hown).form
      have hJ := HC2.out.app (ys := l1) HB2.out hgr (by rw [Nat.zero_add]; exact hown)
      have HC3 := Lib.hid (show Jt w w' z4 (.slice A5 l1.length m5) (upTo l1.length l2.length 1) (upL l1 l2 1) from by rw [Nat.zero_add] at hJ; exact hJ)
      have hno : ¬ (1024 : Int) < (l1.length : Int) := by omega
      clear hown hgr hat HC2 hJ
      go_wp2_with fail
      go_roundg 1
      case measure => omega
      case rel => exact ⟨1, rfl, rfl, HC3.out⟩
    · rw [e1] at HC2 ⊢
      have x0 := (HC2.out.bel.cell (p := ⟨g, 3, none⟩) hgl).trans HG.out.2.1
      have x1 := (HC2.out.bel.cell (p := ⟨g, 4, none⟩) hgl).trans HG.out.2.2.1
      have x2 := (HC2.out.bel.cell (p := ⟨g, 5, none⟩) hgl).trans HG.out.2.2.2
      have hbw : Below wr.heap.size wr (wr.alloc (.cells #[.int .i64 (v2.n : Int), .int .i64 (v2.root : Int), .int .i64 (v2.tail : Int)] 30)) := (Below.refl _ wr).alloc (Nat.le_refl _) _
      have HBW := Lib.hid hbw
      clear hbw
      go_wp2_with fail
      refine (vall v2 l2 _ ((HA.out.below HC2.out.bel).below HBW.out) HV2.out).mono ?_
      rintro e w2 ⟨y, rfl, hy, hb2⟩
      have HB2 := Lib.hid (HBW.out.trans (hb2.mono HBW.out.size))
      have HY := Lib.hid (Rd.of_own hy)
      obtain ⟨A6, m6, rfl, _⟩ := (Rd.of_own hy).form
      have hs2 : w.heap.size ≤ w2.heap.size := Nat.le_trans hs HB2.out.size
      clear hy hb2 x0 x1 x2
      go_wp2_with (at_builtin; refine wpList_append_rd rfl _ _ 31 rfl w.heap.size 38 i1 _ 3 32 Try.underlying31 hi1 hy0 hy1 hy2 rfl (by decide) (.slice A4 l1.length m4) l1.length ((upL l1 l2 1).flatMap cells3) rfl ?k0 (.slice A6 l2.length m6) l2.length (l2.flatMap cells3) rfl ?k1 (flat_len l2) (flat_one l2) ?k2 ?k3 ?k4 ?_)
      case k0 => exact (Kp.of_below HB2.out (fun _ => False)).own HC2.out.own (fun _ _ => id)
      case k1 => exact HY.out
      case k2 => unfold maxLen; omega
      case k3 => omega
      case k4 => exact hs2
      intro v' w' hown hgr hat
      obtain ⟨A5, m5, rfl, _⟩ := (Rd.of_own hown).form
      have hJ := HC2.out.app HB2.out hgr hown
      have HC3 := Lib.hid (show Jt w w' z4 (.slice A5 (l1.length + l2.length) m5) (upTo l1.length l2.length 2) (upL l1 l2 2) from hJ)
      clear hown hgr hat HC2 hJ e0 e1 e2 hs hs2
      by_cases hbig : (1024 : Int) < (l1.length : Int) + (l2.length : Int)
      · go_wp2_with fail
        refine (vfrom (l1 ++ l2) (.slice A5 (l1.length + l2.length) m5) w' (HA.out.below HC3.out.bel) (by rw [List.length_append]; exact Rd.of_own HC3.out.own) (fun k hk hf => by have := HF.out k hf; have := (HC3.out.own.lt k hk).1; omega) HR.out).mono ?_
        rintro e w9 hfd
        obtain ⟨v', er, M', rfl, hst⟩ := hfd.form
        have q4 := HC3.out.c3.kp hst.kp (fun hf => by have := HF.out _ hf; have := HZ.out; omega)
        obtain ⟨d0, d1, d2, f0, f1, f2⟩ := q4.all
        have HFD := Lib.hid hfd
        clear hst q4 hfd
        go_wp2_with fail
        refine bodyPost_ret (v := .tuple #[vagg v', .int .i64 er]) (by simp [results, Try.results36, go_sem, vagg, d0, d1, d2]) rfl (HFD.out.around HF.out HC3.out.bel HZ.out HC3.out.c3.lt ?_)
        exact ((((Kp.refl (fun g => g = z4) w9).setCell (.inl rfl) _).setCell (.inl rfl) _).setCell (.inl rfl) _)
      · go_wp2_with fail
        go_roundg 0
        case measure => omega
        case rel => exact ⟨2, rfl, rfl, HC3.out⟩
    · rw [e2] at HC2 ⊢
      obtain ⟨w', hw'⟩ : ∃ w', w' = wr := ⟨_, rfl⟩
      subst hw'
      have HC3 := Lib.hid (show Jt w w' z4 (.slice A4 (l1.length + l2.length) m4) (upTo l1.length l2.length 2) (upL l1 l2 2) from HC2.out)
      clear HC2 e0 e1 e2 hs
      go_wp2_with fail
      refine (vfrom (l1 ++ l2) (.slice A4 (l1.length + l2.length) m4) w' (HA.out.below HC3.out.bel) (by rw [List.length_append]; exact Rd.of_own HC3.out.own) (fun k hk hf => by have := HF.out k hf; have := (HC3.out.own.lt k hk).1; omega) HR.out).mono ?_
      rintro e w9 hfd
      obtain ⟨v', er, M', rfl, hst⟩ := hfd.form
      have q4 := HC3.out.c3.kp hst.kp (fun hf => by have := HF.out _ hf; have := HZ.out; omega)
      obtain ⟨d0, d1, d2, f0, f1, f2⟩ := q4.all
      have HFD := Lib.hid hfd
      clear hst q4 hfd
      go_wp2_with fail
      refine bodyPost_ret (v := .tuple #[vagg v', .int .i64 er]) (by simp [results, Try.results36, go_sem, vagg, d0, d1, d2]) rfl (HFD.out.around HF.out HC3.out.bel HZ.out HC3.out.c3.lt ?_)
      exact ((((Kp.refl (fun g => g = z4) w9).setCell (.inl rfl) _).setCell (.inl rfl) _).setCell (.inl rfl) _)
end

end Go.Proofs.Ytjdpgehmkcdmfaa

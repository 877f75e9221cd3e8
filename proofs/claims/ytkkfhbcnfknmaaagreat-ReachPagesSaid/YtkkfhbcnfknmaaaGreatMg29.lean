/- Several texts in one. -/
import Derived.Test.YtkkfhbcnfknmaaaGreatMg27
import Derived.Test.YtkkfhbcnfknmaaaGreatMg28
import Derived.BigQuiet
import Derived.IntWalk
import Derived.Test.YtkkfhbcnfknmaaaGreatMg11
set_option linter.unusedSimpArgs false
namespace Go.Proofs.YtkkfhbcnfknmaaaGreat
set_option maxRecDepth 100000
set_option linter.unusedSimpArgs false
set_option linter.unusedVariables false
open Go.RowKit Go.Shelf
abbrev scs (fa : Ky) (fo : Bool) (ta : Ky) (tb : Bool) (n : Int) : Array Value := #[.int .u8 fa.1, .int .i64 fa.2.1, .string fa.2.2, .bool fo, .int .u8 ta.1, .int .i64 ta.2.1, .string ta.2.2, .bool tb, .int .i64 n]
theorem BC.stretch {W : World} {z : Nat} {fa ta : Ky} {fo tb : Bool} {n : Int} (h : BC W z 115 (scs fa fo ta tb n)) : W.cell? ⟨z, 0, none⟩ = some (.int .u8 fa.1) ∧ W.cell? ⟨z, 1, none⟩ = some (.int .i64 fa.2.1) ∧ W.cell? ⟨z, 2, none⟩ = some (.string fa.2.2) ∧ W.cell? ⟨z, 3, none⟩ = some (.bool fo) ∧ W.cell? ⟨z, 4, none⟩ = some (.int .u8 ta.1) ∧ W.cell? ⟨z, 5, none⟩ = some (.int .i64 ta.2.1) ∧ W.cell? ⟨z, 6, none⟩ = some (.string ta.2.2) ∧ W.cell? ⟨z, 7, none⟩ = some (.bool tb) ∧ W.cell? ⟨z, 8, none⟩ = some (.int .i64 n) := ⟨h.at rfl, h.at rfl, h.at rfl, h.at rfl, h.at rfl, h.at rfl, h.at rfl, h.at rfl, h.at rfl⟩
theorem btF_le {n : Nat} {ib : Ky → Bool} : ∀ (l acc : List Pr), (btF n ib l acc).length ≤ acc.length + l.length
  | [], _ => Nat.le_refl _
  | p :: l, acc => by
    rw [btF]
    split
    · cases ib p.1
      · have h := btF_le (n := n) (ib := ib) l acc
        simp at h ⊢
        omega
      · have h := btF_le (n := n) (ib := ib) l (acc ++ [p])
        simp at h ⊢
        omega
    · simp
section
set_option maxHeartbeats 16000000 in
theorem lpages12 (seed : Nat) (A : Option Addr) (l : List Ky) (c : Nat) (fa ta : Ky) (fo tb : Bool) (N : Int) (w : World) (hL : Lst w A l) (hok : ∀ k ∈ l, 0 ≤ k.1 ∧ k.1 ≤ 255) (hn : l.length ≤ 200) (hfs : fa.2.2.size ≤ 9223372036854775807) (hts : ta.2.2.size ≤ 9223372036854775807) :
    Calls Tryz.prog 9 #[.int .u64 seed, .slice A l.length c, .agg (scs fa fo ta tb N)] w fun e w' => e = .returned (.bool true) ∧ Below w.heap.size w w' := by
  have n1 : ¬ (200 : Int) < (l.length : Int) := by omega
  have HH := Lib.hid (And.intro hL (And.intro hok (And.intro hn (And.intro hfs hts))))
  obtain ⟨W0, hW0⟩ : ∃ W0, W0 = w.alloc (.cells (scs fa fo ta tb N) 115) := ⟨_, rfl⟩
  have hb0 : Below w.heap.size w W0 := by rw [hW0]; exact (Below.refl _ w).alloc (Nat.le_refl _) _
  have q3 : BC W0 w.heap.size 115 (scs fa fo ta tb N) := by rw [hW0]; exact BC.new w _ _
  have H0 := Lib.hid (And.intro hb0 q3)
  clear hL hok hn hfs hts hb0 q3
  go_enter Tryz.func9, Tryz.ntmps9
  go_upto_region 1 with fail
  rw [← hW0]
  obtain ⟨zk, hzk⟩ : ∃ z, z = w.heap.size := ⟨_, rfl⟩
  rw [← hzk] at H0 ⊢
  have HZK := Lib.hid hzk
  clear hW0 hzk
  go_wp2_with fail
  refine (llives12 W0).mono ?_
  rintro e w1 ⟨rfl, hb1⟩
  have H1 := Lib.hid (show Below w.heap.size w w1 ∧ BC w1 zk 115 (scs fa fo ta tb N) from ⟨by have h := H0.out.1; rw [HZK.out] at h; exact h.trans (hb1.mono h.size), H0.out.2.below hb1⟩)
  clear hb1 H0
  go_wp2_with fail
  refine (lmade12 seed A l c w1 (HH.out.1.below H1.out.1) HH.out.2.1 HH.out.2.2.1).mono ?_
  rintro e w2 ⟨hhas, hb2⟩
  rcases hhas with ⟨b, bh, N', rt, Av, n, cv, rfl, _⟩ | ⟨b, bh, root, M, F, Av, cv, rfl, ha, hT, hrow, hkeys, hlen⟩
  · have HB := Lib.hid (H1.out.1.trans (hb2.mono H1.out.1.size))
    clear hb2
    go_wp2_with fail
    go_ret
    exact ⟨rfl, (HB.out.alloc HB.out.size _).alloc (by have := HB.out.size; simp; omega) _⟩
  · generalize addN 0 l [] = L at ha hT hrow hkeys hlen ⊢
    have hlen2 : L.length ≤ 200 := by have := HH.out.2.2.1; omega
    go_upto_region 4 with fail
    obtain ⟨w3, hw3⟩ : ∃ w3, w3 = (w2.alloc (.cells #[ap b, .pointer (some ⟨bh, 0, none⟩)] 26)).alloc (.cells #[.int .i64 (L.length : Nat), .int .i64 (root : Nat)] 72) := ⟨_, rfl⟩
    have hb3 : Below w2.heap.size w2 w3 := by rw [hw3]; exact ((Below.refl _ w2).alloc (Nat.le_refl _) _).alloc (by simp) _
    have q1 : C2 w3 w2.heap.size 26 (ap b) (.pointer (some ⟨bh, 0, none⟩)) := by rw [hw3]; exact (C2.new w2 _ _ _).alloc _
    have q2 : C2 w3 (w2.heap.size + 1) 72 (.int .i64 (L.length : Nat)) (.int .i64 (root : Nat)) := by
      have h := C2.new (w2.alloc (.cells #[ap b, .pointer (some ⟨bh, 0, none⟩)] 26)) 72 (.int .i64 (L.length : Nat)) (.int .i64 (root : Nat))
      rw [World.size_alloc] at h
      rw [hw3]
      exact h
    have HX := Lib.hid (And.intro q1 (And.intro q2 (And.intro (ha.below hb3) (And.intro hT (And.intro ((Kp.of_below hb3 (fun _ => False)).own hrow (fun _ _ => id)) (And.intro hkeys (And.intro hlen2 (And.intro ((H1.out.1.trans (hb2.mono H1.out.1.size)).trans (hb3.mono (by have := H1.out.1.size; have := hb2.size; omega))) ((H1.out.2.below hb2).below hb3)))))))))
    rw [← hw3]
    clear hb2 hb3 q1 q2 ha hT hrow hkeys hlen hlen2 hw3 H1
    generalize w2.heap.size = z7 at HX ⊢
    generalize z7 + 1 = z8 at HX ⊢
    obtain ⟨x0, x1, x2, x3, x4, x5, x6, x7, x8⟩ := HX.out.2.2.2.2.2.2.2.2.stretch
    obtain ⟨a0, a1, _⟩ := HX.out.1.all
    obtain ⟨a2, a3, _⟩ := HX.out.2.1.all
    go_upto_region 7 with fail
    obtain ⟨nn, hnn⟩ : ∃ nn, nn = N.tmod 80 := ⟨_, rfl⟩
    rw [← hnn]
    clear hnn
    by_cases hbad : nn < 0 ∨ 64 < nn
    · have HBAD := Lib.hid hbad
      clear hbad
      go_wp2_with fail
      refine (rPage_no b bh L.length root fa ta fo tb nn HBAD.out w3).mono ?_
      rintro e w4 ⟨rfl, hb4⟩
      have HB := Lib.hid (HX.out.2.2.2.2.2.2.2.1.trans (hb4.mono HX.out.2.2.2.2.2.2.2.1.size))
      clear hb4 x0 x1 x2 x3 x4 x5 x6 x7 x8 a0 a1 a2 a3
      rcases Int.lt_or_le nn 0 with h0 | h0
      · clear HBAD
        go_wp2_with fail
        go_ret
        exact ⟨by simp, HB.out⟩
      · have h1 : (64 : Int) < nn := by have := HBAD.out; omega
        have h2 : ¬ nn < 0 := by omega
        clear h0 HBAD
        go_wp2_with fail
        go_ret
        exact ⟨by simp, HB.out⟩
    · obtain ⟨m, rfl⟩ : ∃ m : Nat, nn = (m : Int) := Int.eq_ofNat_of_zero_le (by omega)
      have hm : m ≤ 64 := by omega
      have HM := Lib.hid hm
      clear hbad hm
      go_wp2_with fail
      refine (rPage (b := b) (bh := bh) (most := 4096) (M := M) (F := F) (l := L) L.length root fa ta fo tb m HM.out w3 HX.out.2.2.1 HX.out.2.2.2.1 (by have := HX.out.2.2.2.2.2.2.1; omega)).mono ?_
      rintro e w4 ⟨vg, rfl, hown, hb4⟩
      rw [page_between HX.out.2.2.2.1.srt (fun p hp => (HX.out.2.2.2.2.2.1 p hp).2)] at hown
      obtain ⟨G, hG⟩ : ∃ G, G = btF m (inK (fromK fa fo) (toK ta tb)) L [] := ⟨_, rfl⟩
      rw [← hG] at hown
      obtain ⟨Ag, cg, rfl, _⟩ := (Rd.of_own hown).form
      have HGG := Lib.hid hG
      have HOW := Lib.hid hown
      have HS := Lib.hid (HX.out.2.2.2.2.2.2.2.2.below hb4)
      have HB4 := Lib.hid hb4
      have h2 : ¬ (m : Int) < 0 := by omega
      have h3 : ¬ (64 : Int) < (m : Int) := by have := HM.out; omega
      clear hG hown hb4 x0 x1 x2 x3 x4 x5 x6 x7 x8 a0 a1 a2 a3
      go_upto_region 10 with fail
      clear h2 h3
      go_cut [14, 15] from 63 to 71 (fun s14 s15 wc => ∃ (za zb : Nat), s14 = .pointer (some ⟨za, 0, none⟩) ∧ s15 = .pointer (some ⟨zb, 0, none⟩) ∧ C3 wc za 82 (.int .u8 fa.1) (.int .i64 fa.2.1) (.string fa.2.2) ∧ C3 wc zb 82 (.int .u8 ta.1) (.int .i64 ta.2.1) (.string ta.2.2) ∧ za ≠ zb ∧ w4.heap.size ≤ za ∧ w4.heap.size ≤ zb ∧ Below w4.heap.size w4 wc)
      case first =>
        have l0 : ∀ W', BC W' zk 115 (scs fa fo ta tb N) → W'.cell? ⟨zk, 0, none⟩ = some (.int .u8 fa.1) := fun W' h => h.at rfl
        have l1 : ∀ W', BC W' zk 115 (scs fa fo ta tb N) → W'.cell? ⟨zk, 1, none⟩ = some (.int .i64 fa.2.1) := fun W' h => h.at rfl
        have l2 : ∀ W', BC W' zk 115 (scs fa fo ta tb N) → W'.cell? ⟨zk, 2, none⟩ = some (.string fa.2.2) := fun W' h => h.at rfl
        have l3 : ∀ W', BC W' zk 115 (scs fa fo ta tb N) → W'.cell? ⟨zk, 4, none⟩ = some (.int .u8 ta.1) := fun W' h => h.at rfl
        have l4 : ∀ W', BC W' zk 115 (scs fa fo ta tb N) → W'.cell? ⟨zk, 5, none⟩ = some (.int .i64 ta.2.1) := fun W' h => h.at rfl
        have l5 : ∀ W', BC W' zk 115 (scs fa fo ta tb N) → W'.cell? ⟨zk, 6, none⟩ = some (.string ta.2.2) := fun W' h => h.at rfl
        refine wp_region_noPanic ?_
        refine wp_region_held_drew (S := (fun W' => BC W' zk 115 (scs fa fo ta tb N))) (by kernel_rfl) (HS.out.below (Below.refl _ w4).drew) (fun hH => ?_)
        have HG := Lib.hid (Below.refl w4.heap.size w4).drew
        generalize World.drew _ = Wc at HG hH ⊢
        refine tkH ?_ 0 hH ?_ ?_; rotate_left
        · intro W' hS; go_simp; with_reducible rfl
        simp only [tkr]
        refine tkH ?_ 1 hH ?_ ?_; rotate_left
        · intro W' hS; go_simp; with_reducible rfl
        simp only [tkr]
        refine tkH ?_ 2 hH ?_ ?_; rotate_left
        · intro W' hS; go_simp; with_reducible rfl
        simp only [tkr]
        refine tkH ?_ 4 hH ?_ ?_; rotate_left
        · intro W' hS; go_simp; with_reducible rfl
        simp only [tkr]
        refine tkH ?_ 5 hH ?_ ?_; rotate_left
        · intro W' hS; go_simp; with_reducible rfl
        simp only [tkr]
        refine tkH ?_ 6 hH ?_ ?_; rotate_left
        · intro W' hS; go_simp; with_reducible rfl
        simp only [tkr]
        refine wpAnyH_ready (rs := [3, 8, 9]) (by kernel_rfl) (by simp) ?_
        refine AllReadyH.cons rfl (fun K hK => ?_) (AllReadyH.cons rfl (fun K hK => ?_) (AllReadyH.cons rfl (fun K hK => ?_) (AllReadyH.nil)))
        · go_simp
          refine (lof12 fa Wc).mono ?_
          rintro e Wc ⟨rfl, hbn⟩
          replace HG := Lib.hid (HG.out.trans (hbn.mono HG.out.size))
          try replace ma := ma.below hbn
          try replace mb := mb.below hbn
          clear hbn
          simp only
          refine hK.out _ _ ?_ (fun hH => ?_)
          · exact HS.out.below HG.out
          clear hK K
          refine wpAnyH_ready (rs := [7, 8, 9]) (by kernel_rfl) (by simp) ?_
          refine AllReadyH.cons rfl (fun K hK => ?_) (AllReadyH.cons rfl (fun K hK => ?_) (AllReadyH.cons rfl (fun K hK => ?_) (AllReadyH.nil)))
          · go_simp
            refine (lof12 ta Wc).mono ?_
            rintro e Wc ⟨rfl, hbn⟩
            replace HG := Lib.hid (HG.out.trans (hbn.mono HG.out.size))
            try replace ma := ma.below hbn
            try replace mb := mb.below hbn
            clear hbn
            simp only
            refine hK.out _ _ ?_ (fun hH => ?_)
            · exact HS.out.below HG.out
            clear hK K
            refine wpAnyH_ready (rs := [8, 9]) (by kernel_rfl) (by simp) ?_
            refine AllReadyH.cons rfl (fun K hK => ?_) (AllReadyH.cons rfl (fun K hK => ?_) (AllReadyH.nil))
            · go_simp
              have ma := C3.new Wc 82 (.int .u8 0) (.int .i64 0) (.string ⟨#[]⟩)
              have ga := HG.out.size
              try have nba := mb.lt
              try replace mb := mb.alloc (.cells #[.int .u8 0, .int .i64 0, .string ⟨#[]⟩] 82)
              replace HG := Lib.hid (HG.out.alloc HG.out.size (.cells #[.int .u8 0, .int .i64 0, .string ⟨#[]⟩] 82))
              refine hK.out _ _ ?_ (fun hH => ?_)
              · exact HS.out.below HG.out
              clear hK K
              first | generalize World.alloc _ _ = Wn at HG ma mb hH ⊢ | generalize World.alloc _ _ = Wn at HG ma hH ⊢
              first | generalize Wc.heap.size = za at ma ga nba ⊢ | generalize Wc.heap.size = za at ma ga ⊢
              rename World => Wc
              refine rdH 9 rfl (fun K hK => ?_)
              go_simp
              have mb := C3.new Wc 82 (.int .u8 0) (.int .i64 0) (.string ⟨#[]⟩)
              have gb := HG.out.size
              try have nab := ma.lt
              try replace ma := ma.alloc (.cells #[.int .u8 0, .int .i64 0, .string ⟨#[]⟩] 82)
              replace HG := Lib.hid (HG.out.alloc HG.out.size (.cells #[.int .u8 0, .int .i64 0, .string ⟨#[]⟩] 82))
              refine hK.out _ _ ?_ (fun hH => ?_)
              · exact HS.out.below HG.out
              clear hK K
              first | generalize World.alloc _ _ = Wn at HG mb ma hH ⊢ | generalize World.alloc _ _ = Wn at HG mb hH ⊢
              first | generalize Wc.heap.size = zb at mb gb nab ⊢ | generalize Wc.heap.size = zb at mb gb ⊢
              rename World => Wc
              refine rdH 10 rfl (fun K hK => ?_)
              obtain ⟨c0, c1, c2, f0, f1, f2⟩ := ma.all
              go_simp
              clear c0 c1 c2 f0 f1 f2
              have kz : Kp (fun q => q = za) Wc (((Wc.setCell ⟨za, 0, none⟩ (.int .u8 fa.1)).setCell ⟨za, 1, none⟩ (.int .i64 fa.2.1)).setCell ⟨za, 2, none⟩ (.string fa.2.2)) := (((Kp.refl (fun q => q = za) Wc).setCell (.inl rfl) _).setCell (.inl rfl) _).setCell (.inl rfl) _
              replace HG := Lib.hid (below_kp HG.out kz (fun q e => by omega))
              replace mb := mb.kp kz (fun e => by omega)
              replace ma := ((ma.set0 (.int .u8 fa.1)).set1 (.int .i64 fa.2.1)).set2 (.string fa.2.2)
              clear kz
              obtain ⟨Wn, hWn⟩ : ∃ Wn, Wn = (((Wc.setCell ⟨za, 0, none⟩ (.int .u8 fa.1)).setCell ⟨za, 1, none⟩ (.int .i64 fa.2.1)).setCell ⟨za, 2, none⟩ (.string fa.2.2)) := ⟨_, rfl⟩
              rw [← hWn] at HG ma mb ⊢
              clear hWn
              rename World => Wc
              refine hK.out _ _ ?_ (fun hH => ?_)
              · exact HS.out.below HG.out
              clear hK K
              refine rdH 11 rfl (fun K hK => ?_)
              obtain ⟨c0, c1, c2, f0, f1, f2⟩ := mb.all
              go_simp
              clear c0 c1 c2 f0 f1 f2
              have kz : Kp (fun q => q = zb) Wc (((Wc.setCell ⟨zb, 0, none⟩ (.int .u8 ta.1)).setCell ⟨zb, 1, none⟩ (.int .i64 ta.2.1)).setCell ⟨zb, 2, none⟩ (.string ta.2.2)) := (((Kp.refl (fun q => q = zb) Wc).setCell (.inl rfl) _).setCell (.inl rfl) _).setCell (.inl rfl) _
              replace HG := Lib.hid (below_kp HG.out kz (fun q e => by omega))
              replace ma := ma.kp kz (fun e => by omega)
              replace mb := ((mb.set0 (.int .u8 ta.1)).set1 (.int .i64 ta.2.1)).set2 (.string ta.2.2)
              clear kz
              obtain ⟨Wn, hWn⟩ : ∃ Wn, Wn = (((Wc.setCell ⟨zb, 0, none⟩ (.int .u8 ta.1)).setCell ⟨zb, 1, none⟩ (.int .i64 ta.2.1)).setCell ⟨zb, 2, none⟩ (.string ta.2.2)) := ⟨_, rfl⟩
              rw [← hWn] at HG ma mb ⊢
              clear hWn
              rename World => Wc
              refine hK.out _ _ ?_ (fun hH => ?_)
              · exact HS.out.below HG.out
              clear hK K
              refine wpAnyH_done (by kernel_rfl) ?_ _
              refine NoPanic.normal ?_
              clear l0 l1 l2 l3 l4 l5 hH
              go_wp2_with fail
              go_meet
              case rel => exact ⟨za, zb, rfl, rfl, ma, mb, by omega, ga, gb, HG.out⟩
            · go_simp
              have mb := C3.new Wc 82 (.int .u8 0) (.int .i64 0) (.string ⟨#[]⟩)
              have gb := HG.out.size
              try have nab := ma.lt
              try replace ma := ma.alloc (.cells #[.int .u8 0, .int .i64 0, .string ⟨#[]⟩] 82)
              replace HG := Lib.hid (HG.out.alloc HG.out.size (.cells #[.int .u8 0, .int .i64 0, .string ⟨#[]⟩] 82))
              refine hK.out _ _ ?_ (fun hH => ?_)
              · exact HS.out.below HG.out
              clear hK K
              first | generalize World.alloc _ _ = Wn at HG mb ma hH ⊢ | generalize World.alloc _ _ = Wn at HG mb hH ⊢
              first | generalize Wc.heap.size = zb at mb gb nab ⊢ | generalize Wc.heap.size = zb at mb gb ⊢
              rename World => Wc
              refine rdH 8 rfl (fun K hK => ?_)
              go_simp
              have ma := C3.new Wc 82 (.int .u8 0) (.int .i64 0) (.string ⟨#[]⟩)
              have ga := HG.out.size
              try have nba := mb.lt
              try replace mb := mb.alloc (.cells #[.int .u8 0, .int .i64 0, .string ⟨#[]⟩] 82)
              replace HG := Lib.hid (HG.out.alloc HG.out.size (.cells #[.int .u8 0, .int .i64 0, .string ⟨#[]⟩] 82))
              refine hK.out _ _ ?_ (fun hH => ?_)
              · exact HS.out.below HG.out
              clear hK K
              first | generalize World.alloc _ _ = Wn at HG ma mb hH ⊢ | generalize World.alloc _ _ = Wn at HG ma hH ⊢
              first | generalize Wc.heap.size = za at ma ga nba ⊢ | generalize Wc.heap.size = za at ma ga ⊢
              rename World => Wc
              refine rdH 10 rfl (fun K hK => ?_)
              obtain ⟨c0, c1, c2, f0, f1, f2⟩ := ma.all
              go_simp
              clear c0 c1 c2 f0 f1 f2
              have kz : Kp (fun q => q = za) Wc (((Wc.setCell ⟨za, 0, none⟩ (.int .u8 fa.1)).setCell ⟨za, 1, none⟩ (.int .i64 fa.2.1)).setCell ⟨za, 2, none⟩ (.string fa.2.2)) := (((Kp.refl (fun q => q = za) Wc).setCell (.inl rfl) _).setCell (.inl rfl) _).setCell (.inl rfl) _
              replace HG := Lib.hid (below_kp HG.out kz (fun q e => by omega))
              replace mb := mb.kp kz (fun e => by omega)
              replace ma := ((ma.set0 (.int .u8 fa.1)).set1 (.int .i64 fa.2.1)).set2 (.string fa.2.2)
              clear kz
              obtain ⟨Wn, hWn⟩ : ∃ Wn, Wn = (((Wc.setCell ⟨za, 0, none⟩ (.int .u8 fa.1)).setCell ⟨za, 1, none⟩ (.int .i64 fa.2.1)).setCell ⟨za, 2, none⟩ (.string fa.2.2)) := ⟨_, rfl⟩
              rw [← hWn] at HG ma mb ⊢
              clear hWn
              rename World => Wc
              refine hK.out _ _ ?_ (fun hH => ?_)
              · exact HS.out.below HG.out
              clear hK K
              refine rdH 11 rfl (fun K hK => ?_)
              obtain ⟨c0, c1, c2, f0, f1, f2⟩ := mb.all
              go_simp
              clear c0 c1 c2 f0 f1 f2
              have kz : Kp (fun q => q = zb) Wc (((Wc.setCell ⟨zb, 0, none⟩ (.int .u8 ta.1)).setCell ⟨zb, 1, none⟩ (.int .i64 ta.2.1)).setCell ⟨zb, 2, none⟩ (.string ta.2.2)) := (((Kp.refl (fun q => q = zb) Wc).setCell (.inl rfl) _).setCell (.inl rfl) _).setCell (.inl rfl) _
              replace HG := Lib.hid (below_kp HG.out kz (fun q e => by omega))
              replace ma := ma.kp kz (fun e => by omega)
              replace mb := ((mb.set0 (.int .u8 ta.1)).set1 (.int .i64 ta.2.1)).set2 (.string ta.2.2)
              clear kz
              obtain ⟨Wn, hWn⟩ : ∃ Wn, Wn = (((Wc.setCell ⟨zb, 0, none⟩ (.int .u8 ta.1)).setCell ⟨zb, 1, none⟩ (.int .i64 ta.2.1)).setCell ⟨zb, 2, none⟩ (.string ta.2.2)) := ⟨_, rfl⟩
              rw [← hWn] at HG ma mb ⊢
              clear hWn
              rename World => Wc
              refine hK.out _ _ ?_ (fun hH => ?_)
              · exact HS.out.below HG.out
              clear hK K
              refine wpAnyH_done (by kernel_rfl) ?_ _
              refine NoPanic.normal ?_
              clear l0 l1 l2 l3 l4 l5 hH
              go_wp2_with fail
              go_meet
              case rel => exact ⟨za, zb, rfl, rfl, ma, mb, by omega, ga, gb, HG.out⟩
          · go_simp
            have ma := C3.new Wc 82 (.int .u8 0) (.int .i64 0) (.string ⟨#[]⟩)
            have ga := HG.out.size
            try have nba := mb.lt
            try replace mb := mb.alloc (.cells #[.int .u8 0, .int .i64 0, .string ⟨#[]⟩] 82)
            replace HG := Lib.hid (HG.out.alloc HG.out.size (.cells #[.int .u8 0, .int .i64 0, .string ⟨#[]⟩] 82))
            refine hK.out _ _ ?_ (fun hH => ?_)
            · exact HS.out.below HG.out
            clear hK K
            first | generalize World.alloc _ _ = Wn at HG ma mb hH ⊢ | generalize World.alloc _ _ = Wn at HG ma hH ⊢
            first | generalize Wc.heap.size = za at ma ga nba ⊢ | generalize Wc.heap.size = za at ma ga ⊢
            rename World => Wc
            refine wpAnyH_ready (rs := [7, 9]) (by kernel_rfl) (by simp) ?_
            refine AllReadyH.cons rfl (fun K hK => ?_) (AllReadyH.cons rfl (fun K hK => ?_) (AllReadyH.nil))
            · go_simp
              refine (lof12 ta Wc).mono ?_
              rintro e Wc ⟨rfl, hbn⟩
              replace HG := Lib.hid (HG.out.trans (hbn.mono HG.out.size))
              try replace ma := ma.below hbn
              try replace mb := mb.below hbn
              clear hbn
              simp only
              refine hK.out _ _ ?_ (fun hH => ?_)
              · exact HS.out.below HG.out
              clear hK K
              refine rdH 9 rfl (fun K hK => ?_)
              go_simp
              have mb := C3.new Wc 82 (.int .u8 0) (.int .i64 0) (.string ⟨#[]⟩)
              have gb := HG.out.size
              try have nab := ma.lt
              try replace ma := ma.alloc (.cells #[.int .u8 0, .int .i64 0, .string ⟨#[]⟩] 82)
              replace HG := Lib.hid (HG.out.alloc HG.out.size (.cells #[.int .u8 0, .int .i64 0, .string ⟨#[]⟩] 82))
              refine hK.out _ _ ?_ (fun hH => ?_)
              · exact HS.out.below HG.out
              clear hK K
              first | generalize World.alloc _ _ = Wn at HG mb ma hH ⊢ | generalize World.alloc _ _ = Wn at HG mb hH ⊢
              first | generalize Wc.heap.size = zb at mb gb nab ⊢ | generalize Wc.heap.size = zb at mb gb ⊢
              rename World => Wc
              refine rdH 10 rfl (fun K hK => ?_)
              obtain ⟨c0, c1, c2, f0, f1, f2⟩ := ma.all
              go_simp
              clear c0 c1 c2 f0 f1 f2
              have kz : Kp (fun q => q = za) Wc (((Wc.setCell ⟨za, 0, none⟩ (.int .u8 fa.1)).setCell ⟨za, 1, none⟩ (.int .i64 fa.2.1)).setCell ⟨za, 2, none⟩ (.string fa.2.2)) := (((Kp.refl (fun q => q = za) Wc).setCell (.inl rfl) _).setCell (.inl rfl) _).setCell (.inl rfl) _
              replace HG := Lib.hid (below_kp HG.out kz (fun q e => by omega))
              replace mb := mb.kp kz (fun e => by omega)
              replace ma := ((ma.set0 (.int .u8 fa.1)).set1 (.int .i64 fa.2.1)).set2 (.string fa.2.2)
              clear kz
              obtain ⟨Wn, hWn⟩ : ∃ Wn, Wn = (((Wc.setCell ⟨za, 0, none⟩ (.int .u8 fa.1)).setCell ⟨za, 1, none⟩ (.int .i64 fa.2.1)).setCell ⟨za, 2, none⟩ (.string fa.2.2)) := ⟨_, rfl⟩
              rw [← hWn] at HG ma mb ⊢
              clear hWn
              rename World => Wc
              refine hK.out _ _ ?_ (fun hH => ?_)
              · exact HS.out.below HG.out
              clear hK K
              refine rdH 11 rfl (fun K hK => ?_)
              obtain ⟨c0, c1, c2, f0, f1, f2⟩ := mb.all
              go_simp
              clear c0 c1 c2 f0 f1 f2
              have kz : Kp (fun q => q = zb) Wc (((Wc.setCell ⟨zb, 0, none⟩ (.int .u8 ta.1)).setCell ⟨zb, 1, none⟩ (.int .i64 ta.2.1)).setCell ⟨zb, 2, none⟩ (.string ta.2.2)) := (((Kp.refl (fun q => q = zb) Wc).setCell (.inl rfl) _).setCell (.inl rfl) _).setCell (.inl rfl) _
              replace HG := Lib.hid (below_kp HG.out kz (fun q e => by omega))
              replace ma := ma.kp kz (fun e => by omega)
              replace mb := ((mb.set0 (.int .u8 ta.1)).set1 (.int .i64 ta.2.1)).set2 (.string ta.2.2)
              clear kz
              obtain ⟨Wn, hWn⟩ : ∃ Wn, Wn = (((Wc.setCell ⟨zb, 0, none⟩ (.int .u8 ta.1)).setCell ⟨zb, 1, none⟩ (.int .i64 ta.2.1)).setCell ⟨zb, 2, none⟩ (.string ta.2.2)) := ⟨_, rfl⟩
              rw [← hWn] at HG ma mb ⊢
              clear hWn
              rename World => Wc
              refine hK.out _ _ ?_ (fun hH => ?_)
              · exact HS.out.below HG.out
              clear hK K
              refine wpAnyH_done (by kernel_rfl) ?_ _
              refine NoPanic.normal ?_
              clear l0 l1 l2 l3 l4 l5 hH
              go_wp2_with fail
              go_meet
              case rel => exact ⟨za, zb, rfl, rfl, ma, mb, by omega, ga, gb, HG.out⟩
            · go_simp
              have mb := C3.new Wc 82 (.int .u8 0) (.int .i64 0) (.string ⟨#[]⟩)
              have gb := HG.out.size
              try have nab := ma.lt
              try replace ma := ma.alloc (.cells #[.int .u8 0, .int .i64 0, .string ⟨#[]⟩] 82)
              replace HG := Lib.hid (HG.out.alloc HG.out.size (.cells #[.int .u8 0, .int .i64 0, .string ⟨#[]⟩] 82))
              refine hK.out _ _ ?_ (fun hH => ?_)
              · exact HS.out.below HG.out
              clear hK K
              first | generalize World.alloc _ _ = Wn at HG mb ma hH ⊢ | generalize World.alloc _ _ = Wn at HG mb hH ⊢
              first | generalize Wc.heap.size = zb at mb gb nab ⊢ | generalize Wc.heap.size = zb at mb gb ⊢
              rename World => Wc
              refine rdH 7 rfl (fun K hK => ?_)
              go_simp
              refine (lof12 ta Wc).mono ?_
              rintro e Wc ⟨rfl, hbn⟩
              replace HG := Lib.hid (HG.out.trans (hbn.mono HG.out.size))
              try replace ma := ma.below hbn
              try replace mb := mb.below hbn
              clear hbn
              simp only
              refine hK.out _ _ ?_ (fun hH => ?_)
              · exact HS.out.below HG.out
              clear hK K
              refine rdH 10 rfl (fun K hK => ?_)
              obtain ⟨c0, c1, c2, f0, f1, f2⟩ := ma.all
              go_simp
              clear c0 c1 c2 f0 f1 f2
              have kz : Kp (fun q => q = za) Wc (((Wc.setCell ⟨za, 0, none⟩ (.int .u8 fa.1)).setCell ⟨za, 1, none⟩ (.int .i64 fa.2.1)).setCell ⟨za, 2, none⟩ (.string fa.2.2)) := (((Kp.refl (fun q => q = za) Wc).setCell (.inl rfl) _).setCell (.inl rfl) _).setCell (.inl rfl) _
              replace HG := Lib.hid (below_kp HG.out kz (fun q e => by omega))
              replace mb := mb.kp kz (fun e => by omega)
              replace ma := ((ma.set0 (.int .u8 fa.1)).set1 (.int .i64 fa.2.1)).set2 (.string fa.2.2)
              clear kz
              obtain ⟨Wn, hWn⟩ : ∃ Wn, Wn = (((Wc.setCell ⟨za, 0, none⟩ (.int .u8 fa.1)).setCell ⟨za, 1, none⟩ (.int .i64 fa.2.1)).setCell ⟨za, 2, none⟩ (.string fa.2.2)) := ⟨_, rfl⟩
              rw [← hWn] at HG ma mb ⊢
              clear hWn
              rename World => Wc
              refine hK.out _ _ ?_ (fun hH => ?_)
              · exact HS.out.below HG.out
              clear hK K
              refine rdH 11 rfl (fun K hK => ?_)
              obtain ⟨c0, c1, c2, f0, f1, f2⟩ := mb.all
              go_simp
              clear c0 c1 c2 f0 f1 f2
              have kz : Kp (fun q => q = zb) Wc (((Wc.setCell ⟨zb, 0, none⟩ (.int .u8 ta.1)).setCell ⟨zb, 1, none⟩ (.int .i64 ta.2.1)).setCell ⟨zb, 2, none⟩ (.string ta.2.2)) := (((Kp.refl (fun q => q = zb) Wc).setCell (.inl rfl) _).setCell (.inl rfl) _).setCell (.inl rfl) _
              replace HG := Lib.hid (below_kp HG.out kz (fun q e => by omega))
              replace ma := ma.kp kz (fun e => by omega)
              replace mb := ((mb.set0 (.int .u8 ta.1)).set1 (.int .i64 ta.2.1)).set2 (.string ta.2.2)
              clear kz
              obtain ⟨Wn, hWn⟩ : ∃ Wn, Wn = (((Wc.setCell ⟨zb, 0, none⟩ (.int .u8 ta.1)).setCell ⟨zb, 1, none⟩ (.int .i64 ta.2.1)).setCell ⟨zb, 2, none⟩ (.string ta.2.2)) := ⟨_, rfl⟩
              rw [← hWn] at HG ma mb ⊢
              clear hWn
              rename World => Wc
              refine hK.out _ _ ?_ (fun hH => ?_)
              · exact HS.out.below HG.out
              clear hK K
              refine wpAnyH_done (by kernel_rfl) ?_ _
              refine NoPanic.normal ?_
              clear l0 l1 l2 l3 l4 l5 hH
              go_wp2_with fail
              go_meet
              case rel => exact ⟨za, zb, rfl, rfl, ma, mb, by omega, ga, gb, HG.out⟩
          · go_simp
            have mb := C3.new Wc 82 (.int .u8 0) (.int .i64 0) (.string ⟨#[]⟩)
            have gb := HG.out.size
            try have nab := ma.lt
            try replace ma := ma.alloc (.cells #[.int .u8 0, .int .i64 0, .string ⟨#[]⟩] 82)
            replace HG := Lib.hid (HG.out.alloc HG.out.size (.cells #[.int .u8 0, .int .i64 0, .string ⟨#[]⟩] 82))
            refine hK.out _ _ ?_ (fun hH => ?_)
            · exact HS.out.below HG.out
            clear hK K
            first | generalize World.alloc _ _ = Wn at HG mb ma hH ⊢ | generalize World.alloc _ _ = Wn at HG mb hH ⊢
            first | generalize Wc.heap.size = zb at mb gb nab ⊢ | generalize Wc.heap.size = zb at mb gb ⊢
            rename World => Wc
            refine wpAnyH_ready (rs := [7, 8]) (by kernel_rfl) (by simp) ?_
            refine AllReadyH.cons rfl (fun K hK => ?_) (AllReadyH.cons rfl (fun K hK => ?_) (AllReadyH.nil))
            · go_simp
              refine (lof12 ta Wc).mono ?_
              rintro e Wc ⟨rfl, hbn⟩
              replace HG := Lib.hid (HG.out.trans (hbn.mono HG.out.size))
              try replace ma := ma.below hbn
              try replace mb := mb.below hbn
              clear hbn
              simp only
              refine hK.out _ _ ?_ (fun hH => ?_)
              · exact HS.out.below HG.out
              clear hK K
              refine rdH 8 rfl (fun K hK => ?_)
              go_simp
              have ma := C3.new Wc 82 (.int .u8 0) (.int .i64 0) (.string ⟨#[]⟩)
              have ga := HG.out.size
              try have nba := mb.lt
              try replace mb := mb.alloc (.cells #[.int .u8 0, .int .i64 0, .string ⟨#[]⟩] 82)
              replace HG := Lib.hid (HG.out.alloc HG.out.size (.cells #[.int .u8 0, .int .i64 0, .string ⟨#[]⟩] 82))
              refine hK.out _ _ ?_ (fun hH => ?_)
              · exact HS.out.below HG.out
              clear hK K
              first | generalize World.alloc _ _ = Wn at HG ma mb hH ⊢ | generalize World.alloc _ _ = Wn at HG ma hH ⊢
              first | generalize Wc.heap.size = za at ma ga nba ⊢ | generalize Wc.heap.size = za at ma ga ⊢
              rename World => Wc
              refine rdH 10 rfl (fun K hK => ?_)
              obtain ⟨c0, c1, c2, f0, f1, f2⟩ := ma.all
              go_simp
              clear c0 c1 c2 f0 f1 f2
              have kz : Kp (fun q => q = za) Wc (((Wc.setCell ⟨za, 0, none⟩ (.int .u8 fa.1)).setCell ⟨za, 1, none⟩ (.int .i64 fa.2.1)).setCell ⟨za, 2, none⟩ (.string fa.2.2)) := (((Kp.refl (fun q => q = za) Wc).setCell (.inl rfl) _).setCell (.inl rfl) _).setCell (.inl rfl) _
              replace HG := Lib.hid (below_kp HG.out kz (fun q e => by omega))
              replace mb := mb.kp kz (fun e => by omega)
              replace ma := ((ma.set0 (.int .u8 fa.1)).set1 (.int .i64 fa.2.1)).set2 (.string fa.2.2)
              clear kz
              obtain ⟨Wn, hWn⟩ : ∃ Wn, Wn = (((Wc.setCell ⟨za, 0, none⟩ (.int .u8 fa.1)).setCell ⟨za, 1, none⟩ (.int .i64 fa.2.1)).setCell ⟨za, 2, none⟩ (.string fa.2.2)) := ⟨_, rfl⟩
              rw [← hWn] at HG ma mb ⊢
              clear hWn
              rename World => Wc
              refine hK.out _ _ ?_ (fun hH => ?_)
              · exact HS.out.below HG.out
              clear hK K
              refine rdH 11 rfl (fun K hK => ?_)
              obtain ⟨c0, c1, c2, f0, f1, f2⟩ := mb.all
              go_simp
              clear c0 c1 c2 f0 f1 f2
              have kz : Kp (fun q => q = zb) Wc (((Wc.setCell ⟨zb, 0, none⟩ (.int .u8 ta.1)).setCell ⟨zb, 1, none⟩ (.int .i64 ta.2.1)).setCell ⟨zb, 2, none⟩ (.string ta.2.2)) := (((Kp.refl (fun q => q = zb) Wc).setCell (.inl rfl) _).setCell (.inl rfl) _).setCell (.inl rfl) _
              replace HG := Lib.hid (below_kp HG.out kz (fun q e => by omega))
              replace ma := ma.kp kz (fun e => by omega)
              replace mb := ((mb.set0 (.int .u8 ta.1)).set1 (.int .i64 ta.2.1)).set2 (.string ta.2.2)
              clear kz
              obtain ⟨Wn, hWn⟩ : ∃ Wn, Wn = (((Wc.setCell ⟨zb, 0, none⟩ (.int .u8 ta.1)).setCell ⟨zb, 1, none⟩ (.int .i64 ta.2.1)).setCell ⟨zb, 2, none⟩ (.string ta.2.2)) := ⟨_, rfl⟩
              rw [← hWn] at HG ma mb ⊢
              clear hWn
              rename World => Wc
              refine hK.out _ _ ?_ (fun hH => ?_)
              · exact HS.out.below HG.out
              clear hK K
              refine wpAnyH_done (by kernel_rfl) ?_ _
              refine NoPanic.normal ?_
              clear l0 l1 l2 l3 l4 l5 hH
              go_wp2_with fail
              go_meet
              case rel => exact ⟨za, zb, rfl, rfl, ma, mb, by omega, ga, gb, HG.out⟩
            · go_simp
              have ma := C3.new Wc 82 (.int .u8 0) (.int .i64 0) (.string ⟨#[]⟩)
              have ga := HG.out.size
              try have nba := mb.lt
              try replace mb := mb.alloc (.cells #[.int .u8 0, .int .i64 0, .string ⟨#[]⟩] 82)
              replace HG := Lib.hid (HG.out.alloc HG.out.size (.cells #[.int .u8 0, .int .i64 0, .string ⟨#[]⟩] 82))
              refine hK.out _ _ ?_ (fun hH => ?_)
              · exact HS.out.below HG.out
              clear hK K
              first | generalize World.alloc _ _ = Wn at HG ma mb hH ⊢ | generalize World.alloc _ _ = Wn at HG ma hH ⊢
              first | generalize Wc.heap.size = za at ma ga nba ⊢ | generalize Wc.heap.size = za at ma ga ⊢
              rename World => Wc
              refine rdH 7 rfl (fun K hK => ?_)
              go_simp
              refine (lof12 ta Wc).mono ?_
              rintro e Wc ⟨rfl, hbn⟩
              replace HG := Lib.hid (HG.out.trans (hbn.mono HG.out.size))
              try replace ma := ma.below hbn
              try replace mb := mb.below hbn
              clear hbn
              simp only
              refine hK.out _ _ ?_ (fun hH => ?_)
              · exact HS.out.below HG.out
              clear hK K
              refine rdH 10 rfl (fun K hK => ?_)
              obtain ⟨c0, c1, c2, f0, f1, f2⟩ := ma.all
              go_simp
              clear c0 c1 c2 f0 f1 f2
              have kz : Kp (fun q => q = za) Wc (((Wc.setCell ⟨za, 0, none⟩ (.int .u8 fa.1)).setCell ⟨za, 1, none⟩ (.int .i64 fa.2.1)).setCell ⟨za, 2, none⟩ (.string fa.2.2)) := (((Kp.refl (fun q => q = za) Wc).setCell (.inl rfl) _).setCell (.inl rfl) _).setCell (.inl rfl) _
              replace HG := Lib.hid (below_kp HG.out kz (fun q e => by omega))
              replace mb := mb.kp kz (fun e => by omega)
              replace ma := ((ma.set0 (.int .u8 fa.1)).set1 (.int .i64 fa.2.1)).set2 (.string fa.2.2)
              clear kz
              obtain ⟨Wn, hWn⟩ : ∃ Wn, Wn = (((Wc.setCell ⟨za, 0, none⟩ (.int .u8 fa.1)).setCell ⟨za, 1, none⟩ (.int .i64 fa.2.1)).setCell ⟨za, 2, none⟩ (.string fa.2.2)) := ⟨_, rfl⟩
              rw [← hWn] at HG ma mb ⊢
              clear hWn
              rename World => Wc
              refine hK.out _ _ ?_ (fun hH => ?_)
              · exact HS.out.below HG.out
              clear hK K
              refine rdH 11 rfl (fun K hK => ?_)
              obtain ⟨c0, c1, c2, f0, f1, f2⟩ := mb.all
              go_simp
              clear c0 c1 c2 f0 f1 f2
              have kz : Kp (fun q => q = zb) Wc (((Wc.setCell ⟨zb, 0, none⟩ (.int .u8 ta.1)).setCell ⟨zb, 1, none⟩ (.int .i64 ta.2.1)).setCell ⟨zb, 2, none⟩ (.string ta.2.2)) := (((Kp.refl (fun q => q = zb) Wc).setCell (.inl rfl) _).setCell (.inl rfl) _).setCell (.inl rfl) _
              replace HG := Lib.hid (below_kp HG.out kz (fun q e => by omega))
              replace ma := ma.kp kz (fun e => by omega)
              replace mb := ((mb.set0 (.int .u8 ta.1)).set1 (.int .i64 ta.2.1)).set2 (.string ta.2.2)
              clear kz
              obtain ⟨Wn, hWn⟩ : ∃ Wn, Wn = (((Wc.setCell ⟨zb, 0, none⟩ (.int .u8 ta.1)).setCell ⟨zb, 1, none⟩ (.int .i64 ta.2.1)).setCell ⟨zb, 2, none⟩ (.string ta.2.2)) := ⟨_, rfl⟩
              rw [← hWn] at HG ma mb ⊢
              clear hWn
              rename World => Wc
              refine hK.out _ _ ?_ (fun hH => ?_)
              · exact HS.out.below HG.out
              clear hK K
              refine wpAnyH_done (by kernel_rfl) ?_ _
              refine NoPanic.normal ?_
              clear l0 l1 l2 l3 l4 l5 hH
              go_wp2_with fail
              go_meet
              case rel => exact ⟨za, zb, rfl, rfl, ma, mb, by omega, ga, gb, HG.out⟩
        · go_simp
          have ma := C3.new Wc 82 (.int .u8 0) (.int .i64 0) (.string ⟨#[]⟩)
          have ga := HG.out.size
          try have nba := mb.lt
          try replace mb := mb.alloc (.cells #[.int .u8 0, .int .i64 0, .string ⟨#[]⟩] 82)
          replace HG := Lib.hid (HG.out.alloc HG.out.size (.cells #[.int .u8 0, .int .i64 0, .string ⟨#[]⟩] 82))
          refine hK.out _ _ ?_ (fun hH => ?_)
          · exact HS.out.below HG.out
          clear hK K
          first | generalize World.alloc _ _ = Wn at HG ma mb hH ⊢ | generalize World.alloc _ _ = Wn at HG ma hH ⊢
          first | generalize Wc.heap.size = za at ma ga nba ⊢ | generalize Wc.heap.size = za at ma ga ⊢
          rename World => Wc
          refine wpAnyH_ready (rs := [3, 9]) (by kernel_rfl) (by simp) ?_
          refine AllReadyH.cons rfl (fun K hK => ?_) (AllReadyH.cons rfl (fun K hK => ?_) (AllReadyH.nil))
          · go_simp
            refine (lof12 fa Wc).mono ?_
            rintro e Wc ⟨rfl, hbn⟩
            replace HG := Lib.hid (HG.out.trans (hbn.mono HG.out.size))
            try replace ma := ma.below hbn
            try replace mb := mb.below hbn
            clear hbn
            simp only
            refine hK.out _ _ ?_ (fun hH => ?_)
            · exact HS.out.below HG.out
            clear hK K
            refine wpAnyH_ready (rs := [7, 9]) (by kernel_rfl) (by simp) ?_
            refine AllReadyH.cons rfl (fun K hK => ?_) (AllReadyH.cons rfl (fun K hK => ?_) (AllReadyH.nil))
            · go_simp
              refine (lof12 ta Wc).mono ?_
              rintro e Wc ⟨rfl, hbn⟩
              replace HG := Lib.hid (HG.out.trans (hbn.mono HG.out.size))
              try replace ma := ma.below hbn
              try replace mb := mb.below hbn
              clear hbn
              simp only
              refine hK.out _ _ ?_ (fun hH => ?_)
              · exact HS.out.below HG.out
              clear hK K
              refine rdH 9 rfl (fun K hK => ?_)
              go_simp
              have mb := C3.new Wc 82 (.int .u8 0) (.int .i64 0) (.string ⟨#[]⟩)
              have gb := HG.out.size
              try have nab := ma.lt
              try replace ma := ma.alloc (.cells #[.int .u8 0, .int .i64 0, .string ⟨#[]⟩] 82)
              replace HG := Lib.hid (HG.out.alloc HG.out.size (.cells #[.int .u8 0, .int .i64 0, .string ⟨#[]⟩] 82))
              refine hK.out _ _ ?_ (fun hH => ?_)
              · exact HS.out.below HG.out
              clear hK K
              first | generalize World.alloc _ _ = Wn at HG mb ma hH ⊢ | generalize World.alloc _ _ = Wn at HG mb hH ⊢
              first | generalize Wc.heap.size = zb at mb gb nab ⊢ | generalize Wc.heap.size = zb at mb gb ⊢
              rename World => Wc
              refine rdH 10 rfl (fun K hK => ?_)
              obtain ⟨c0, c1, c2, f0, f1, f2⟩ := ma.all
              go_simp
              clear c0 c1 c2 f0 f1 f2
              have kz : Kp (fun q => q = za) Wc (((Wc.setCell ⟨za, 0, none⟩ (.int .u8 fa.1)).setCell ⟨za, 1, none⟩ (.int .i64 fa.2.1)).setCell ⟨za, 2, none⟩ (.string fa.2.2)) := (((Kp.refl (fun q => q = za) Wc).setCell (.inl rfl) _).setCell (.inl rfl) _).setCell (.inl rfl) _
              replace HG := Lib.hid (below_kp HG.out kz (fun q e => by omega))
              replace mb := mb.kp kz (fun e => by omega)
              replace ma := ((ma.set0 (.int .u8 fa.1)).set1 (.int .i64 fa.2.1)).set2 (.string fa.2.2)
              clear kz
              obtain ⟨Wn, hWn⟩ : ∃ Wn, Wn = (((Wc.setCell ⟨za, 0, none⟩ (.int .u8 fa.1)).setCell ⟨za, 1, none⟩ (.int .i64 fa.2.1)).setCell ⟨za, 2, none⟩ (.string fa.2.2)) := ⟨_, rfl⟩
              rw [← hWn] at HG ma mb ⊢
              clear hWn
              rename World => Wc
              refine hK.out _ _ ?_ (fun hH => ?_)
              · exact HS.out.below HG.out
              clear hK K
              refine rdH 11 rfl (fun K hK => ?_)
              obtain ⟨c0, c1, c2, f0, f1, f2⟩ := mb.all
              go_simp
              clear c0 c1 c2 f0 f1 f2
              have kz : Kp (fun q => q = zb) Wc (((Wc.setCell ⟨zb, 0, none⟩ (.int .u8 ta.1)).setCell ⟨zb, 1, none⟩ (.int .i64 ta.2.1)).setCell ⟨zb, 2, none⟩ (.string ta.2.2)) := (((Kp.refl (fun q => q = zb) Wc).setCell (.inl rfl) _).setCell (.inl rfl) _).setCell (.inl rfl) _
              replace HG := Lib.hid (below_kp HG.out kz (fun q e => by omega))
              replace ma := ma.kp kz (fun e => by omega)
              replace mb := ((mb.set0 (.int .u8 ta.1)).set1 (.int .i64 ta.2.1)).set2 (.string ta.2.2)
              clear kz
              obtain ⟨Wn, hWn⟩ : ∃ Wn, Wn = (((Wc.setCell ⟨zb, 0, none⟩ (.int .u8 ta.1)).setCell ⟨zb, 1, none⟩ (.int .i64 ta.2.1)).setCell ⟨zb, 2, none⟩ (.string ta.2.2)) := ⟨_, rfl⟩
              rw [← hWn] at HG ma mb ⊢
              clear hWn
              rename World => Wc
              refine hK.out _ _ ?_ (fun hH => ?_)
              · exact HS.out.below HG.out
              clear hK K
              refine wpAnyH_done (by kernel_rfl) ?_ _
              refine NoPanic.normal ?_
              clear l0 l1 l2 l3 l4 l5 hH
              go_wp2_with fail
              go_meet
              case rel => exact ⟨za, zb, rfl, rfl, ma, mb, by omega, ga, gb, HG.out⟩
            · go_simp
              have mb := C3.new Wc 82 (.int .u8 0) (.int .i64 0) (.string ⟨#[]⟩)
              have gb := HG.out.size
              try have nab := ma.lt
              try replace ma := ma.alloc (.cells #[.int .u8 0, .int .i64 0, .string ⟨#[]⟩] 82)
              replace HG := Lib.hid (HG.out.alloc HG.out.size (.cells #[.int .u8 0, .int .i64 0, .string ⟨#[]⟩] 82))
              refine hK.out _ _ ?_ (fun hH => ?_)
              · exact HS.out.below HG.out
              clear hK K
              first | generalize World.alloc _ _ = Wn at HG mb ma hH ⊢ | generalize World.alloc _ _ = Wn at HG mb hH ⊢
              first | generalize Wc.heap.size = zb at mb gb nab ⊢ | generalize Wc.heap.size = zb at mb gb ⊢
              rename World => Wc
              refine rdH 7 rfl (fun K hK => ?_)
              go_simp
              refine (lof12 ta Wc).mono ?_
              rintro e Wc ⟨rfl, hbn⟩
              replace HG := Lib.hid (HG.out.trans (hbn.mono HG.out.size))
              try replace ma := ma.below hbn
              try replace mb := mb.below hbn
              clear hbn
              simp only
              refine hK.out _ _ ?_ (fun hH => ?_)
              · exact HS.out.below HG.out
              clear hK K
              refine rdH 10 rfl (fun K hK => ?_)
              obtain ⟨c0, c1, c2, f0, f1, f2⟩ := ma.all
              go_simp
              clear c0 c1 c2 f0 f1 f2
              have kz : Kp (fun q => q = za) Wc (((Wc.setCell ⟨za, 0, none⟩ (.int .u8 fa.1)).setCell ⟨za, 1, none⟩ (.int .i64 fa.2.1)).setCell ⟨za, 2, none⟩ (.string fa.2.2)) := (((Kp.refl (fun q => q = za) Wc).setCell (.inl rfl) _).setCell (.inl rfl) _).setCell (.inl rfl) _
              replace HG := Lib.hid (below_kp HG.out kz (fun q e => by omega))
              replace mb := mb.kp kz (fun e => by omega)
              replace ma := ((ma.set0 (.int .u8 fa.1)).set1 (.int .i64 fa.2.1)).set2 (.string fa.2.2)
              clear kz
              obtain ⟨Wn, hWn⟩ : ∃ Wn, Wn = (((Wc.setCell ⟨za, 0, none⟩ (.int .u8 fa.1)).setCell ⟨za, 1, none⟩ (.int .i64 fa.2.1)).setCell ⟨za, 2, none⟩ (.string fa.2.2)) := ⟨_, rfl⟩
              rw [← hWn] at HG ma mb ⊢
              clear hWn
              rename World => Wc
              refine hK.out _ _ ?_ (fun hH => ?_)
              · exact HS.out.below HG.out
              clear hK K
              refine rdH 11 rfl (fun K hK => ?_)
              obtain ⟨c0, c1, c2, f0, f1, f2⟩ := mb.all
              go_simp
              clear c0 c1 c2 f0 f1 f2
              have kz : Kp (fun q => q = zb) Wc (((Wc.setCell ⟨zb, 0, none⟩ (.int .u8 ta.1)).setCell ⟨zb, 1, none⟩ (.int .i64 ta.2.1)).setCell ⟨zb, 2, none⟩ (.string ta.2.2)) := (((Kp.refl (fun q => q = zb) Wc).setCell (.inl rfl) _).setCell (.inl rfl) _).setCell (.inl rfl) _
              replace HG := Lib.hid (below_kp HG.out kz (fun q e => by omega))
              replace ma := ma.kp kz (fun e => by omega)
              replace mb := ((mb.set0 (.int .u8 ta.1)).set1 (.int .i64 ta.2.1)).set2 (.string ta.2.2)
              clear kz
              obtain ⟨Wn, hWn⟩ : ∃ Wn, Wn = (((Wc.setCell ⟨zb, 0, none⟩ (.int .u8 ta.1)).setCell ⟨zb, 1, none⟩ (.int .i64 ta.2.1)).setCell ⟨zb, 2, none⟩ (.string ta.2.2)) := ⟨_, rfl⟩
              rw [← hWn] at HG ma mb ⊢
              clear hWn
              rename World => Wc
              refine hK.out _ _ ?_ (fun hH => ?_)
              · exact HS.out.below HG.out
              clear hK K
              refine wpAnyH_done (by kernel_rfl) ?_ _
              refine NoPanic.normal ?_
              clear l0 l1 l2 l3 l4 l5 hH
              go_wp2_with fail
              go_meet
              case rel => exact ⟨za, zb, rfl, rfl, ma, mb, by omega, ga, gb, HG.out⟩
          · go_simp
            have mb := C3.new Wc 82 (.int .u8 0) (.int .i64 0) (.string ⟨#[]⟩)
            have gb := HG.out.size
            try have nab := ma.lt
            try replace ma := ma.alloc (.cells #[.int .u8 0, .int .i64 0, .string ⟨#[]⟩] 82)
            replace HG := Lib.hid (HG.out.alloc HG.out.size (.cells #[.int .u8 0, .int .i64 0, .string ⟨#[]⟩] 82))
            refine hK.out _ _ ?_ (fun hH => ?_)
            · exact HS.out.below HG.out
            clear hK K
            first | generalize World.alloc _ _ = Wn at HG mb ma hH ⊢ | generalize World.alloc _ _ = Wn at HG mb hH ⊢
            first | generalize Wc.heap.size = zb at mb gb nab ⊢ | generalize Wc.heap.size = zb at mb gb ⊢
            rename World => Wc
            refine rdH 3 rfl (fun K hK => ?_)
            go_simp
            refine (lof12 fa Wc).mono ?_
            rintro e Wc ⟨rfl, hbn⟩
            replace HG := Lib.hid (HG.out.trans (hbn.mono HG.out.size))
            try replace ma := ma.below hbn
            try replace mb := mb.below hbn
            clear hbn
            simp only
            refine hK.out _ _ ?_ (fun hH => ?_)
            · exact HS.out.below HG.out
            clear hK K
            refine rdH 7 rfl (fun K hK => ?_)
            go_simp
            refine (lof12 ta Wc).mono ?_
            rintro e Wc ⟨rfl, hbn⟩
            replace HG := Lib.hid (HG.out.trans (hbn.mono HG.out.size))
            try replace ma := ma.below hbn
            try replace mb := mb.below hbn
            clear hbn
            simp only
            refine hK.out _ _ ?_ (fun hH => ?_)
            · exact HS.out.below HG.out
            clear hK K
            refine rdH 10 rfl (fun K hK => ?_)
            obtain ⟨c0, c1, c2, f0, f1, f2⟩ := ma.all
            go_simp
            clear c0 c1 c2 f0 f1 f2
            have kz : Kp (fun q => q = za) Wc (((Wc.setCell ⟨za, 0, none⟩ (.int .u8 fa.1)).setCell ⟨za, 1, none⟩ (.int .i64 fa.2.1)).setCell ⟨za, 2, none⟩ (.string fa.2.2)) := (((Kp.refl (fun q => q = za) Wc).setCell (.inl rfl) _).setCell (.inl rfl) _).setCell (.inl rfl) _
            replace HG := Lib.hid (below_kp HG.out kz (fun q e => by omega))
            replace mb := mb.kp kz (fun e => by omega)
            replace ma := ((ma.set0 (.int .u8 fa.1)).set1 (.int .i64 fa.2.1)).set2 (.string fa.2.2)
            clear kz
            obtain ⟨Wn, hWn⟩ : ∃ Wn, Wn = (((Wc.setCell ⟨za, 0, none⟩ (.int .u8 fa.1)).setCell ⟨za, 1, none⟩ (.int .i64 fa.2.1)).setCell ⟨za, 2, none⟩ (.string fa.2.2)) := ⟨_, rfl⟩
            rw [← hWn] at HG ma mb ⊢
            clear hWn
            rename World => Wc
            refine hK.out _ _ ?_ (fun hH => ?_)
            · exact HS.out.below HG.out
            clear hK K
            refine rdH 11 rfl (fun K hK => ?_)
            obtain ⟨c0, c1, c2, f0, f1, f2⟩ := mb.all
            go_simp
            clear c0 c1 c2 f0 f1 f2
            have kz : Kp (fun q => q = zb) Wc (((Wc.setCell ⟨zb, 0, none⟩ (.int .u8 ta.1)).setCell ⟨zb, 1, none⟩ (.int .i64 ta.2.1)).setCell ⟨zb, 2, none⟩ (.string ta.2.2)) := (((Kp.refl (fun q => q = zb) Wc).setCell (.inl rfl) _).setCell (.inl rfl) _).setCell (.inl rfl) _
            replace HG := Lib.hid (below_kp HG.out kz (fun q e => by omega))
            replace ma := ma.kp kz (fun e => by omega)
            replace mb := ((mb.set0 (.int .u8 ta.1)).set1 (.int .i64 ta.2.1)).set2 (.string ta.2.2)
            clear kz
            obtain ⟨Wn, hWn⟩ : ∃ Wn, Wn = (((Wc.setCell ⟨zb, 0, none⟩ (.int .u8 ta.1)).setCell ⟨zb, 1, none⟩ (.int .i64 ta.2.1)).setCell ⟨zb, 2, none⟩ (.string ta.2.2)) := ⟨_, rfl⟩
            rw [← hWn] at HG ma mb ⊢
            clear hWn
            rename World => Wc
            refine hK.out _ _ ?_ (fun hH => ?_)
            · exact HS.out.below HG.out
            clear hK K
            refine wpAnyH_done (by kernel_rfl) ?_ _
            refine NoPanic.normal ?_
            clear l0 l1 l2 l3 l4 l5 hH
            go_wp2_with fail
            go_meet
            case rel => exact ⟨za, zb, rfl, rfl, ma, mb, by omega, ga, gb, HG.out⟩
        · go_simp
          have mb := C3.new Wc 82 (.int .u8 0) (.int .i64 0) (.string ⟨#[]⟩)
          have gb := HG.out.size
          try have nab := ma.lt
          try replace ma := ma.alloc (.cells #[.int .u8 0, .int .i64 0, .string ⟨#[]⟩] 82)
          replace HG := Lib.hid (HG.out.alloc HG.out.size (.cells #[.int .u8 0, .int .i64 0, .string ⟨#[]⟩] 82))
          refine hK.out _ _ ?_ (fun hH => ?_)
          · exact HS.out.below HG.out
          clear hK K
          first | generalize World.alloc _ _ = Wn at HG mb ma hH ⊢ | generalize World.alloc _ _ = Wn at HG mb hH ⊢
          first | generalize Wc.heap.size = zb at mb gb nab ⊢ | generalize Wc.heap.size = zb at mb gb ⊢
          rename World => Wc
          refine wpAnyH_ready (rs := [3, 8]) (by kernel_rfl) (by simp) ?_
          refine AllReadyH.cons rfl (fun K hK => ?_) (AllReadyH.cons rfl (fun K hK => ?_) (AllReadyH.nil))
          · go_simp
            refine (lof12 fa Wc).mono ?_
            rintro e Wc ⟨rfl, hbn⟩
            replace HG := Lib.hid (HG.out.trans (hbn.mono HG.out.size))
            try replace ma := ma.below hbn
            try replace mb := mb.below hbn
            clear hbn
            simp only
            refine hK.out _ _ ?_ (fun hH => ?_)
            · exact HS.out.below HG.out
            clear hK K
            refine wpAnyH_ready (rs := [7, 8]) (by kernel_rfl) (by simp) ?_
            refine AllReadyH.cons rfl (fun K hK => ?_) (AllReadyH.cons rfl (fun K hK => ?_) (AllReadyH.nil))
            · go_simp
              refine (lof12 ta Wc).mono ?_
              rintro e Wc ⟨rfl, hbn⟩
              replace HG := Lib.hid (HG.out.trans (hbn.mono HG.out.size))
              try replace ma := ma.below hbn
              try replace mb := mb.below hbn
              clear hbn
              simp only
              refine hK.out _ _ ?_ (fun hH => ?_)
              · exact HS.out.below HG.out
              clear hK K
              refine rdH 8 rfl (fun K hK => ?_)
              go_simp
              have ma := C3.new Wc 82 (.int .u8 0) (.int .i64 0) (.string ⟨#[]⟩)
              have ga := HG.out.size
              try have nba := mb.lt
              try replace mb := mb.alloc (.cells #[.int .u8 0, .int .i64 0, .string ⟨#[]⟩] 82)
              replace HG := Lib.hid (HG.out.alloc HG.out.size (.cells #[.int .u8 0, .int .i64 0, .string ⟨#[]⟩] 82))
              refine hK.out _ _ ?_ (fun hH => ?_)
              · exact HS.out.below HG.out
              clear hK K
              first | generalize World.alloc _ _ = Wn at HG ma mb hH ⊢ | generalize World.alloc _ _ = Wn at HG ma hH ⊢
              first | generalize Wc.heap.size = za at ma ga nba ⊢ | generalize Wc.heap.size = za at ma ga ⊢
              rename World => Wc
              refine rdH 10 rfl (fun K hK => ?_)
              obtain ⟨c0, c1, c2, f0, f1, f2⟩ := ma.all
              go_simp
              clear c0 c1 c2 f0 f1 f2
              have kz : Kp (fun q => q = za) Wc (((Wc.setCell ⟨za, 0, none⟩ (.int .u8 fa.1)).setCell ⟨za, 1, none⟩ (.int .i64 fa.2.1)).setCell ⟨za, 2, none⟩ (.string fa.2.2)) := (((Kp.refl (fun q => q = za) Wc).setCell (.inl rfl) _).setCell (.inl rfl) _).setCell (.inl rfl) _
              replace HG := Lib.hid (below_kp HG.out kz (fun q e => by omega))
              replace mb := mb.kp kz (fun e => by omega)
              replace ma := ((ma.set0 (.int .u8 fa.1)).set1 (.int .i64 fa.2.1)).set2 (.string fa.2.2)
              clear kz
              obtain ⟨Wn, hWn⟩ : ∃ Wn, Wn = (((Wc.setCell ⟨za, 0, none⟩ (.int .u8 fa.1)).setCell ⟨za, 1, none⟩ (.int .i64 fa.2.1)).setCell ⟨za, 2, none⟩ (.string fa.2.2)) := ⟨_, rfl⟩
              rw [← hWn] at HG ma mb ⊢
              clear hWn
              rename World => Wc
              refine hK.out _ _ ?_ (fun hH => ?_)
              · exact HS.out.below HG.out
              clear hK K
              refine rdH 11 rfl (fun K hK => ?_)
              obtain ⟨c0, c1, c2, f0, f1, f2⟩ := mb.all
              go_simp
              clear c0 c1 c2 f0 f1 f2
              have kz : Kp (fun q => q = zb) Wc (((Wc.setCell ⟨zb, 0, none⟩ (.int .u8 ta.1)).setCell ⟨zb, 1, none⟩ (.int .i64 ta.2.1)).setCell ⟨zb, 2, none⟩ (.string ta.2.2)) := (((Kp.refl (fun q => q = zb) Wc).setCell (.inl rfl) _).setCell (.inl rfl) _).setCell (.inl rfl) _
              replace HG := Lib.hid (below_kp HG.out kz (fun q e => by omega))
              replace ma := ma.kp kz (fun e => by omega)
              replace mb := ((mb.set0 (.int .u8 ta.1)).set1 (.int .i64 ta.2.1)).set2 (.string ta.2.2)
              clear kz
              obtain ⟨Wn, hWn⟩ : ∃ Wn, Wn = (((Wc.setCell ⟨zb, 0, none⟩ (.int .u8 ta.1)).setCell ⟨zb, 1, none⟩ (.int .i64 ta.2.1)).setCell ⟨zb, 2, none⟩ (.string ta.2.2)) := ⟨_, rfl⟩
              rw [← hWn] at HG ma mb ⊢
              clear hWn
              rename World => Wc
              refine hK.out _ _ ?_ (fun hH => ?_)
              · exact HS.out.below HG.out
              clear hK K
              refine wpAnyH_done (by kernel_rfl) ?_ _
              refine NoPanic.normal ?_
              clear l0 l1 l2 l3 l4 l5 hH
              go_wp2_with fail
              go_meet
              case rel => exact ⟨za, zb, rfl, rfl, ma, mb, by omega, ga, gb, HG.out⟩
            · go_simp
              have ma := C3.new Wc 82 (.int .u8 0) (.int .i64 0) (.string ⟨#[]⟩)
              have ga := HG.out.size
              try have nba := mb.lt
              try replace mb := mb.alloc (.cells #[.int .u8 0, .int .i64 0, .string ⟨#[]⟩] 82)
              replace HG := Lib.hid (HG.out.alloc HG.out.size (.cells #[.int .u8 0, .int .i64 0, .string ⟨#[]⟩] 82))
              refine hK.out _ _ ?_ (fun hH => ?_)
              · exact HS.out.below HG.out
              clear hK K
              first | generalize World.alloc _ _ = Wn at HG ma mb hH ⊢ | generalize World.alloc _ _ = Wn at HG ma hH ⊢
              first | generalize Wc.heap.size = za at ma ga nba ⊢ | generalize Wc.heap.size = za at ma ga ⊢
              rename World => Wc
              refine rdH 7 rfl (fun K hK => ?_)
              go_simp
              refine (lof12 ta Wc).mono ?_
              rintro e Wc ⟨rfl, hbn⟩
              replace HG := Lib.hid (HG.out.trans (hbn.mono HG.out.size))
              try replace ma := ma.below hbn
              try replace mb := mb.below hbn
              clear hbn
              simp only
              refine hK.out _ _ ?_ (fun hH => ?_)
              · exact HS.out.below HG.out
              clear hK K
              refine rdH 10 rfl (fun K hK => ?_)
              obtain ⟨c0, c1, c2, f0, f1, f2⟩ := ma.all
              go_simp
              clear c0 c1 c2 f0 f1 f2
              have kz : Kp (fun q => q = za) Wc (((Wc.setCell ⟨za, 0, none⟩ (.int .u8 fa.1)).setCell ⟨za, 1, none⟩ (.int .i64 fa.2.1)).setCell ⟨za, 2, none⟩ (.string fa.2.2)) := (((Kp.refl (fun q => q = za) Wc).setCell (.inl rfl) _).setCell (.inl rfl) _).setCell (.inl rfl) _
              replace HG := Lib.hid (below_kp HG.out kz (fun q e => by omega))
              replace mb := mb.kp kz (fun e => by omega)
              replace ma := ((ma.set0 (.int .u8 fa.1)).set1 (.int .i64 fa.2.1)).set2 (.string fa.2.2)
              clear kz
              obtain ⟨Wn, hWn⟩ : ∃ Wn, Wn = (((Wc.setCell ⟨za, 0, none⟩ (.int .u8 fa.1)).setCell ⟨za, 1, none⟩ (.int .i64 fa.2.1)).setCell ⟨za, 2, none⟩ (.string fa.2.2)) := ⟨_, rfl⟩
              rw [← hWn] at HG ma mb ⊢
              clear hWn
              rename World => Wc
              refine hK.out _ _ ?_ (fun hH => ?_)
              · exact HS.out.below HG.out
              clear hK K
              refine rdH 11 rfl (fun K hK => ?_)
              obtain ⟨c0, c1, c2, f0, f1, f2⟩ := mb.all
              go_simp
              clear c0 c1 c2 f0 f1 f2
              have kz : Kp (fun q => q = zb) Wc (((Wc.setCell ⟨zb, 0, none⟩ (.int .u8 ta.1)).setCell ⟨zb, 1, none⟩ (.int .i64 ta.2.1)).setCell ⟨zb, 2, none⟩ (.string ta.2.2)) := (((Kp.refl (fun q => q = zb) Wc).setCell (.inl rfl) _).setCell (.inl rfl) _).setCell (.inl rfl) _
              replace HG := Lib.hid (below_kp HG.out kz (fun q e => by omega))
              replace ma := ma.kp kz (fun e => by omega)
              replace mb := ((mb.set0 (.int .u8 ta.1)).set1 (.int .i64 ta.2.1)).set2 (.string ta.2.2)
              clear kz
              obtain ⟨Wn, hWn⟩ : ∃ Wn, Wn = (((Wc.setCell ⟨zb, 0, none⟩ (.int .u8 ta.1)).setCell ⟨zb, 1, none⟩ (.int .i64 ta.2.1)).setCell ⟨zb, 2, none⟩ (.string ta.2.2)) := ⟨_, rfl⟩
              rw [← hWn] at HG ma mb ⊢
              clear hWn
              rename World => Wc
              refine hK.out _ _ ?_ (fun hH => ?_)
              · exact HS.out.below HG.out
              clear hK K
              refine wpAnyH_done (by kernel_rfl) ?_ _
              refine NoPanic.normal ?_
              clear l0 l1 l2 l3 l4 l5 hH
              go_wp2_with fail
              go_meet
              case rel => exact ⟨za, zb, rfl, rfl, ma, mb, by omega, ga, gb, HG.out⟩
          · go_simp
            have ma := C3.new Wc 82 (.int .u8 0) (.int .i64 0) (.string ⟨#[]⟩)
            have ga := HG.out.size
            try have nba := mb.lt
            try replace mb := mb.alloc (.cells #[.int .u8 0, .int .i64 0, .string ⟨#[]⟩] 82)
            replace HG := Lib.hid (HG.out.alloc HG.out.size (.cells #[.int .u8 0, .int .i64 0, .string ⟨#[]⟩] 82))
            refine hK.out _ _ ?_ (fun hH => ?_)
            · exact HS.out.below HG.out
            clear hK K
            first | generalize World.alloc _ _ = Wn at HG ma mb hH ⊢ | generalize World.alloc _ _ = Wn at HG ma hH ⊢
            first | generalize Wc.heap.size = za at ma ga nba ⊢ | generalize Wc.heap.size = za at ma ga ⊢
            rename World => Wc
            refine rdH 3 rfl (fun K hK => ?_)
            go_simp
            refine (lof12 fa Wc).mono ?_
            rintro e Wc ⟨rfl, hbn⟩
            replace HG := Lib.hid (HG.out.trans (hbn.mono HG.out.size))
            try replace ma := ma.below hbn
            try replace mb := mb.below hbn
            clear hbn
            simp only
            refine hK.out _ _ ?_ (fun hH => ?_)
            · exact HS.out.below HG.out
            clear hK K
            refine rdH 7 rfl (fun K hK => ?_)
            go_simp
            refine (lof12 ta Wc).mono ?_
            rintro e Wc ⟨rfl, hbn⟩
            replace HG := Lib.hid (HG.out.trans (hbn.mono HG.out.size))
            try replace ma := ma.below hbn
            try replace mb := mb.below hbn
            clear hbn
            simp only
            refine hK.out _ _ ?_ (fun hH => ?_)
            · exact HS.out.below HG.out
            clear hK K
            refine rdH 10 rfl (fun K hK => ?_)
            obtain ⟨c0, c1, c2, f0, f1, f2⟩ := ma.all
            go_simp
            clear c0 c1 c2 f0 f1 f2
            have kz : Kp (fun q => q = za) Wc (((Wc.setCell ⟨za, 0, none⟩ (.int .u8 fa.1)).setCell ⟨za, 1, none⟩ (.int .i64 fa.2.1)).setCell ⟨za, 2, none⟩ (.string fa.2.2)) := (((Kp.refl (fun q => q = za) Wc).setCell (.inl rfl) _).setCell (.inl rfl) _).setCell (.inl rfl) _
            replace HG := Lib.hid (below_kp HG.out kz (fun q e => by omega))
            replace mb := mb.kp kz (fun e => by omega)
            replace ma := ((ma.set0 (.int .u8 fa.1)).set1 (.int .i64 fa.2.1)).set2 (.string fa.2.2)
            clear kz
            obtain ⟨Wn, hWn⟩ : ∃ Wn, Wn = (((Wc.setCell ⟨za, 0, none⟩ (.int .u8 fa.1)).setCell ⟨za, 1, none⟩ (.int .i64 fa.2.1)).setCell ⟨za, 2, none⟩ (.string fa.2.2)) := ⟨_, rfl⟩
            rw [← hWn] at HG ma mb ⊢
            clear hWn
            rename World => Wc
            refine hK.out _ _ ?_ (fun hH => ?_)
            · exact HS.out.below HG.out
            clear hK K
            refine rdH 11 rfl (fun K hK => ?_)
            obtain ⟨c0, c1, c2, f0, f1, f2⟩ := mb.all
            go_simp
            clear c0 c1 c2 f0 f1 f2
            have kz : Kp (fun q => q = zb) Wc (((Wc.setCell ⟨zb, 0, none⟩ (.int .u8 ta.1)).setCell ⟨zb, 1, none⟩ (.int .i64 ta.2.1)).setCell ⟨zb, 2, none⟩ (.string ta.2.2)) := (((Kp.refl (fun q => q = zb) Wc).setCell (.inl rfl) _).setCell (.inl rfl) _).setCell (.inl rfl) _
            replace HG := Lib.hid (below_kp HG.out kz (fun q e => by omega))
            replace ma := ma.kp kz (fun e => by omega)
            replace mb := ((mb.set0 (.int .u8 ta.1)).set1 (.int .i64 ta.2.1)).set2 (.string ta.2.2)
            clear kz
            obtain ⟨Wn, hWn⟩ : ∃ Wn, Wn = (((Wc.setCell ⟨zb, 0, none⟩ (.int .u8 ta.1)).setCell ⟨zb, 1, none⟩ (.int .i64 ta.2.1)).setCell ⟨zb, 2, none⟩ (.string ta.2.2)) := ⟨_, rfl⟩
            rw [← hWn] at HG ma mb ⊢
            clear hWn
            rename World => Wc
            refine hK.out _ _ ?_ (fun hH => ?_)
            · exact HS.out.below HG.out
            clear hK K
            refine wpAnyH_done (by kernel_rfl) ?_ _
            refine NoPanic.normal ?_
            clear l0 l1 l2 l3 l4 l5 hH
            go_wp2_with fail
            go_meet
            case rel => exact ⟨za, zb, rfl, rfl, ma, mb, by omega, ga, gb, HG.out⟩
      case rest =>
        obtain ⟨za, zb, rfl, rfl, hma, hmb, hab, hga, hgb, hb4⟩ := hcut
        have HZ := Lib.hid (And.intro hab (And.intro hga hgb))
        have HC := Lib.hid (And.intro hma (And.intro hmb hb4))
        clear hma hmb hab hga hgb hb4
        obtain ⟨_, _, _, x3, _, _, _, x7, _⟩ := (HS.out.below HC.out.2.2).stretch
        obtain ⟨c0, c1, c2, f0, f1, f2⟩ := HC.out.1.all
        obtain ⟨d0, d1, d2, h0, h1, h2⟩ := HC.out.2.1.all
        have ne1 : ¬ za = zb := HZ.out.1
        have ne2 : ¬ zb = za := fun e => HZ.out.1 e.symm
        have lk1 : ¬ zk = za := fun e => by have := HZ.out.2.1; have := HS.out.lt; omega
        have lk2 : ¬ zk = zb := fun e => by have := HZ.out.2.2; have := HS.out.lt; omega
        have lk3 : ¬ za = zk := fun e => lk1 e.symm
        have lk4 : ¬ zb = zk := fun e => lk2 e.symm
        cases fo
        · cases tb
          · obtain ⟨W6, hW6⟩ : ∃ W6, W6 = wc := ⟨_, rfl⟩
            have HE := Lib.hid (show C3 W6 za 82 (.int .u8 (fromK fa false).1) (.int .i64 (fromK fa false).2.1) (.string (fromK fa false).2.2) ∧ C3 W6 zb 82 (.int .u8 (toK ta false).1) (.int .i64 (toK ta false).2.1) (.string (toK ta false).2.2) ∧ Below w4.heap.size w4 W6 from by
              rw [hW6]
              exact ⟨HC.out.1, HC.out.2.1, HC.out.2.2⟩)
            go_upto_region 15 with fail
            subst hW6
            clear c0 c1 c2 f0 f1 f2 d0 d1 d2 h0 h1 h2 x3 x7 ne1 ne2 lk1 lk2 lk3 lk4 HC
            obtain ⟨c0, c1, c2, _⟩ := HE.out.1.all
            obtain ⟨d0, d1, d2, _⟩ := HE.out.2.1.all
            go_wp2_with fail
            refine (rbetween11 _ (.slice Av L.length cv) (fromK fa false) (toK ta false) m L W6 (by have := HX.out.2.2.2.2.2.2.1; omega) (HH.out.2.2.2.1) (HH.out.2.2.2.2) (fun q hq => by have := (HX.out.2.2.2.2.2.1 q hq).1.2.2; omega) ((Kp.of_below (HB4.out.trans (HE.out.2.2.mono HB4.out.size)) (fun _ => False)).own HX.out.2.2.2.2.1 (fun _ _ => id))).mono ?_
            rintro e w5 ⟨vw, rfl, hown, hb5⟩
            rw [← HGG.out] at hown
            obtain ⟨Aw, cw, rfl, _⟩ := (Rd.of_own hown).form
            have hb45 := HE.out.2.2.trans (hb5.mono HE.out.2.2.size)
            have H1 := Lib.hid (Rd.of_own ((Kp.of_below hb45 (fun _ => False)).own HOW.out (fun _ _ => id)))
            have H2 := Lib.hid (Rd.of_own hown)
            have hX8 := HX.out.2.2.2.2.2.2.2.1
            have HB5 := Lib.hid ((hX8.trans (HB4.out.mono hX8.size)).trans (hb45.mono (by have := hX8.size; have := HB4.out.size; omega)))
            have hGl : G.length ≤ 200 := by have := btF_le (n := m) (ib := inK (fromK fa false) (toK ta false)) L []; rw [← HGG.out] at this; have := HX.out.2.2.2.2.2.2.1; simp at *; omega
            have HGL := Lib.hid hGl
            clear hown hb5 hb45 hX8 hGl c0 c1 c2 d0 d1 d2 HE
            go_wp2_with fail
            go_loopg [95] G.length (fun c' i wr => ∃ j : Nat, j + c' = G.length ∧ i = .int .i64 j ∧ Below w5.heap.size w5 wr)
            case atStart => exact ⟨0, by omega, rfl, Below.refl _ _⟩
            case round =>
              obtain ⟨j, hj, rfl, hb⟩ := hrel
              by_cases hlt : j < G.length
              · obtain ⟨x, hx⟩ : ∃ x, G[j]? = some x := ⟨_, List.getElem?_eq_getElem hlt⟩
                obtain ⟨g1, o1, _, e1, x0, x1, x2, x3, x4, x5⟩ := rd6 (H1.out.below hb) hx
                obtain ⟨g2, o2, _, e2, y0, y1, y2, y3, y4, y5⟩ := rd6 (H2.out.below hb) hx
                simp only [Value.slice.injEq, true_and] at e1 e2
                obtain ⟨rfl, rfl⟩ := e1
                obtain ⟨rfl, rfl⟩ := e2
                have HB := Lib.hid hb
                have HJ := Lib.hid (And.intro hj hlt)
                have z3 : (0 : Int) ≤ (j : Int) := by omega
                have z4 : (j : Int) < (G.length : Int) := by omega
                clear hb hx hj hlt
                have HIS := Lib.hid (fun W => lis12 x W)
                have x0 := Gb.cell x0 (World.block_lt_of_cell? wr _ x0)
                have x1 := Gb.cell x1 (World.block_lt_of_cell? wr _ x1)
                have x2 := Gb.cell x2 (World.block_lt_of_cell? wr _ x2)
                have x3 := Gb.cell x3 (World.block_lt_of_cell? wr _ x3)
                have x4 := Gb.cell x4 (World.block_lt_of_cell? wr _ x4)
                have x5 := Gb.cell x5 (World.block_lt_of_cell? wr _ x5)
                have y0 := Gb.cell y0 (World.block_lt_of_cell? wr _ y0)
                have y1 := Gb.cell y1 (World.block_lt_of_cell? wr _ y1)
                have y2 := Gb.cell y2 (World.block_lt_of_cell? wr _ y2)
                have y3 := Gb.cell y3 (World.block_lt_of_cell? wr _ y3)
                have y4 := Gb.cell y4 (World.block_lt_of_cell? wr _ y4)
                have y5 := Gb.cell y5 (World.block_lt_of_cell? wr _ y5)
                go_wp2_with fail
                refine region_below (by kernel_rfl) (by kernel_rfl) ?_
                repeat (go_big_quiet_step ((go_at_call 56; exact Gb.calls _ (HIS.out _))))
                refine wpQuiet_nil ?_
                rintro _ ⟨g9, rfl⟩
                have HB9 := Lib.hid (HB.out.trans (g9.below.mono HB.out.size))
                generalize g9.at' = w9 at HB9 ⊢
                clear y0 y1 y2 y3 y4 y5 x0 x1 x2 x3 x4 x5 g9 HB z3 z4
                have w1 : wrap64 ((j : Int) + 1) = (j : Int) + 1 := IntWalk.wrap64_in _ (by have := HJ.out; have := HGL.out; omega)
                go_wp2_with fail
                go_roundg (G.length - (j + 1))
                case measure => have := HJ.out; omega
                case rel => exact ⟨j + 1, by have := HJ.out; omega, by go_num, HB9.out⟩
              · obtain rfl : j = G.length := by omega
                have HB := Lib.hid (HB5.out.trans (hb.mono HB5.out.size))
                clear hb
                go_wp2_with fail
                go_ret
                exact ⟨rfl, HB.out⟩
          · obtain ⟨W6, hW6⟩ : ∃ W6, W6 = (((wc.setCell ⟨zb, 0, none⟩ (.int .u8 255)).setCell ⟨zb, 1, none⟩ (.int .i64 (0))).setCell ⟨zb, 2, none⟩ (.string ⟨#[]⟩)) := ⟨_, rfl⟩
            have HE := Lib.hid (show C3 W6 za 82 (.int .u8 (fromK fa false).1) (.int .i64 (fromK fa false).2.1) (.string (fromK fa false).2.2) ∧ C3 W6 zb 82 (.int .u8 (toK ta true).1) (.int .i64 (toK ta true).2.1) (.string (toK ta true).2.2) ∧ Below w4.heap.size w4 W6 from by
              rw [hW6]
              exact ⟨(HC.out.1.kp (show Kp (fun q => q = zb) wc (((wc.setCell ⟨zb, 0, none⟩ (.int .u8 255)).setCell ⟨zb, 1, none⟩ (.int .i64 (0))).setCell ⟨zb, 2, none⟩ (.string ⟨#[]⟩)) from (((Kp.refl (fun q => q = zb) wc).setCell (.inl rfl) _).setCell (.inl rfl) _).setCell (.inl rfl) _) (fun e => HZ.out.1 e)), (((HC.out.2.1.set0 (.int .u8 255)).set1 (.int .i64 0)).set2 (.string ⟨#[]⟩)), (below_kp HC.out.2.2 (show Kp (fun q => q = zb) wc (((wc.setCell ⟨zb, 0, none⟩ (.int .u8 255)).setCell ⟨zb, 1, none⟩ (.int .i64 (0))).setCell ⟨zb, 2, none⟩ (.string ⟨#[]⟩)) from (((Kp.refl (fun q => q = zb) wc).setCell (.inl rfl) _).setCell (.inl rfl) _).setCell (.inl rfl) _) (fun q e => by have := HZ.out.2.2; omega))⟩)
            go_upto_region 15 with fail
            rw [← hW6]
            clear c0 c1 c2 f0 f1 f2 d0 d1 d2 h0 h1 h2 x3 x7 ne1 ne2 lk1 lk2 lk3 lk4 HC
            clear hW6
            obtain ⟨c0, c1, c2, _⟩ := HE.out.1.all
            obtain ⟨d0, d1, d2, _⟩ := HE.out.2.1.all
            go_wp2_with fail
            refine (rbetween11 _ (.slice Av L.length cv) (fromK fa false) (toK ta true) m L W6 (by have := HX.out.2.2.2.2.2.2.1; omega) (HH.out.2.2.2.1) (Nat.zero_le _) (fun q hq => by have := (HX.out.2.2.2.2.2.1 q hq).1.2.2; omega) ((Kp.of_below (HB4.out.trans (HE.out.2.2.mono HB4.out.size)) (fun _ => False)).own HX.out.2.2.2.2.1 (fun _ _ => id))).mono ?_
            rintro e w5 ⟨vw, rfl, hown, hb5⟩
            rw [← HGG.out] at hown
            obtain ⟨Aw, cw, rfl, _⟩ := (Rd.of_own hown).form
            have hb45 := HE.out.2.2.trans (hb5.mono HE.out.2.2.size)
            have H1 := Lib.hid (Rd.of_own ((Kp.of_below hb45 (fun _ => False)).own HOW.out (fun _ _ => id)))
            have H2 := Lib.hid (Rd.of_own hown)
            have hX8 := HX.out.2.2.2.2.2.2.2.1
            have HB5 := Lib.hid ((hX8.trans (HB4.out.mono hX8.size)).trans (hb45.mono (by have := hX8.size; have := HB4.out.size; omega)))
            have hGl : G.length ≤ 200 := by have := btF_le (n := m) (ib := inK (fromK fa false) (toK ta true)) L []; rw [← HGG.out] at this; have := HX.out.2.2.2.2.2.2.1; simp at *; omega
            have HGL := Lib.hid hGl
            clear hown hb5 hb45 hX8 hGl c0 c1 c2 d0 d1 d2 HE
            go_wp2_with fail
            go_loopg [95] G.length (fun c' i wr => ∃ j : Nat, j + c' = G.length ∧ i = .int .i64 j ∧ Below w5.heap.size w5 wr)
            case atStart => exact ⟨0, by omega, rfl, Below.refl _ _⟩
            case round =>
              obtain ⟨j, hj, rfl, hb⟩ := hrel
              by_cases hlt : j < G.length
              · obtain ⟨x, hx⟩ : ∃ x, G[j]? = some x := ⟨_, List.getElem?_eq_getElem hlt⟩
                obtain ⟨g1, o1, _, e1, x0, x1, x2, x3, x4, x5⟩ := rd6 (H1.out.below hb) hx
                obtain ⟨g2, o2, _, e2, y0, y1, y2, y3, y4, y5⟩ := rd6 (H2.out.below hb) hx
                simp only [Value.slice.injEq, true_and] at e1 e2
                obtain ⟨rfl, rfl⟩ := e1
                obtain ⟨rfl, rfl⟩ := e2
                have HB := Lib.hid hb
                have HJ := Lib.hid (And.intro hj hlt)
                have z3 : (0 : Int) ≤ (j : Int) := by omega
                have z4 : (j : Int) < (G.length : Int) := by omega
                clear hb hx hj hlt
                have HIS := Lib.hid (fun W => lis12 x W)
                have x0 := Gb.cell x0 (World.block_lt_of_cell? wr _ x0)
                have x1 := Gb.cell x1 (World.block_lt_of_cell? wr _ x1)
                have x2 := Gb.cell x2 (World.block_lt_of_cell? wr _ x2)
                have x3 := Gb.cell x3 (World.block_lt_of_cell? wr _ x3)
                have x4 := Gb.cell x4 (World.block_lt_of_cell? wr _ x4)
                have x5 := Gb.cell x5 (World.block_lt_of_cell? wr _ x5)
                have y0 := Gb.cell y0 (World.block_lt_of_cell? wr _ y0)
                have y1 := Gb.cell y1 (World.block_lt_of_cell? wr _ y1)
                have y2 := Gb.cell y2 (World.block_lt_of_cell? wr _ y2)
                have y3 := Gb.cell y3 (World.block_lt_of_cell? wr _ y3)
                have y4 := Gb.cell y4 (World.block_lt_of_cell? wr _ y4)
                have y5 := Gb.cell y5 (World.block_lt_of_cell? wr _ y5)
                go_wp2_with fail
                refine region_below (by kernel_rfl) (by kernel_rfl) ?_
                repeat (go_big_quiet_step ((go_at_call 56; exact Gb.calls _ (HIS.out _))))
                refine wpQuiet_nil ?_
                rintro _ ⟨g9, rfl⟩
                have HB9 := Lib.hid (HB.out.trans (g9.below.mono HB.out.size))
                generalize g9.at' = w9 at HB9 ⊢
                clear y0 y1 y2 y3 y4 y5 x0 x1 x2 x3 x4 x5 g9 HB z3 z4
                have w1 : wrap64 ((j : Int) + 1) = (j : Int) + 1 := IntWalk.wrap64_in _ (by have := HJ.out; have := HGL.out; omega)
                go_wp2_with fail
                go_roundg (G.length - (j + 1))
                case measure => have := HJ.out; omega
                case rel => exact ⟨j + 1, by have := HJ.out; omega, by go_num, HB9.out⟩
              · obtain rfl : j = G.length := by omega
                have HB := Lib.hid (HB5.out.trans (hb.mono HB5.out.size))
                clear hb
                go_wp2_with fail
                go_ret
                exact ⟨rfl, HB.out⟩
        · cases tb
          · obtain ⟨W6, hW6⟩ : ∃ W6, W6 = (((wc.setCell ⟨za, 0, none⟩ (.int .u8 0)).setCell ⟨za, 1, none⟩ (.int .i64 (-9223372036854775808))).setCell ⟨za, 2, none⟩ (.string ⟨#[]⟩)) := ⟨_, rfl⟩
            have HE := Lib.hid (show C3 W6 za 82 (.int .u8 (fromK fa true).1) (.int .i64 (fromK fa true).2.1) (.string (fromK fa true).2.2) ∧ C3 W6 zb 82 (.int .u8 (toK ta false).1) (.int .i64 (toK ta false).2.1) (.string (toK ta false).2.2) ∧ Below w4.heap.size w4 W6 from by
              rw [hW6]
              exact ⟨(((HC.out.1.set0 (.int .u8 0)).set1 (.int .i64 (-9223372036854775808))).set2 (.string ⟨#[]⟩)), (HC.out.2.1.kp (show Kp (fun q => q = za) wc (((wc.setCell ⟨za, 0, none⟩ (.int .u8 0)).setCell ⟨za, 1, none⟩ (.int .i64 (-9223372036854775808))).setCell ⟨za, 2, none⟩ (.string ⟨#[]⟩)) from (((Kp.refl (fun q => q = za) wc).setCell (.inl rfl) _).setCell (.inl rfl) _).setCell (.inl rfl) _) (fun e => HZ.out.1 e.symm)), (below_kp HC.out.2.2 (show Kp (fun q => q = za) wc (((wc.setCell ⟨za, 0, none⟩ (.int .u8 0)).setCell ⟨za, 1, none⟩ (.int .i64 (-9223372036854775808))).setCell ⟨za, 2, none⟩ (.string ⟨#[]⟩)) from (((Kp.refl (fun q => q = za) wc).setCell (.inl rfl) _).setCell (.inl rfl) _).setCell (.inl rfl) _) (fun q e => by have := HZ.out.2.1; omega))⟩)
            go_upto_region 15 with fail
            rw [← hW6]
            clear c0 c1 c2 f0 f1 f2 d0 d1 d2 h0 h1 h2 x3 x7 ne1 ne2 lk1 lk2 lk3 lk4 HC
            clear hW6
            obtain ⟨c0, c1, c2, _⟩ := HE.out.1.all
            obtain ⟨d0, d1, d2, _⟩ := HE.out.2.1.all
            go_wp2_with fail
            refine (rbetween11 _ (.slice Av L.length cv) (fromK fa true) (toK ta false) m L W6 (by have := HX.out.2.2.2.2.2.2.1; omega) (Nat.zero_le _) (HH.out.2.2.2.2) (fun q hq => by have := (HX.out.2.2.2.2.2.1 q hq).1.2.2; omega) ((Kp.of_below (HB4.out.trans (HE.out.2.2.mono HB4.out.size)) (fun _ => False)).own HX.out.2.2.2.2.1 (fun _ _ => id))).mono ?_
            rintro e w5 ⟨vw, rfl, hown, hb5⟩
            rw [← HGG.out] at hown
            obtain ⟨Aw, cw, rfl, _⟩ := (Rd.of_own hown).form
            have hb45 := HE.out.2.2.trans (hb5.mono HE.out.2.2.size)
            have H1 := Lib.hid (Rd.of_own ((Kp.of_below hb45 (fun _ => False)).own HOW.out (fun _ _ => id)))
            have H2 := Lib.hid (Rd.of_own hown)
            have hX8 := HX.out.2.2.2.2.2.2.2.1
            have HB5 := Lib.hid ((hX8.trans (HB4.out.mono hX8.size)).trans (hb45.mono (by have := hX8.size; have := HB4.out.size; omega)))
            have hGl : G.length ≤ 200 := by have := btF_le (n := m) (ib := inK (fromK fa true) (toK ta false)) L []; rw [← HGG.out] at this; have := HX.out.2.2.2.2.2.2.1; simp at *; omega
            have HGL := Lib.hid hGl
            clear hown hb5 hb45 hX8 hGl c0 c1 c2 d0 d1 d2 HE
            go_wp2_with fail
            go_loopg [95] G.length (fun c' i wr => ∃ j : Nat, j + c' = G.length ∧ i = .int .i64 j ∧ Below w5.heap.size w5 wr)
            case atStart => exact ⟨0, by omega, rfl, Below.refl _ _⟩
            case round =>
              obtain ⟨j, hj, rfl, hb⟩ := hrel
              by_cases hlt : j < G.length
              · obtain ⟨x, hx⟩ : ∃ x, G[j]? = some x := ⟨_, List.getElem?_eq_getElem hlt⟩
                obtain ⟨g1, o1, _, e1, x0, x1, x2, x3, x4, x5⟩ := rd6 (H1.out.below hb) hx
                obtain ⟨g2, o2, _, e2, y0, y1, y2, y3, y4, y5⟩ := rd6 (H2.out.below hb) hx
                simp only [Value.slice.injEq, true_and] at e1 e2
                obtain ⟨rfl, rfl⟩ := e1
                obtain ⟨rfl, rfl⟩ := e2
                have HB := Lib.hid hb
                have HJ := Lib.hid (And.intro hj hlt)
                have z3 : (0 : Int) ≤ (j : Int) := by omega
                have z4 : (j : Int) < (G.length : Int) := by omega
                clear hb hx hj hlt
                have HIS := Lib.hid (fun W => lis12 x W)
                have x0 := Gb.cell x0 (World.block_lt_of_cell? wr _ x0)
                have x1 := Gb.cell x1 (World.block_lt_of_cell? wr _ x1)
                have x2 := Gb.cell x2 (World.block_lt_of_cell? wr _ x2)
                have x3 := Gb.cell x3 (World.block_lt_of_cell? wr _ x3)
                have x4 := Gb.cell x4 (World.block_lt_of_cell? wr _ x4)
                have x5 := Gb.cell x5 (World.block_lt_of_cell? wr _ x5)
                have y0 := Gb.cell y0 (World.block_lt_of_cell? wr _ y0)
                have y1 := Gb.cell y1 (World.block_lt_of_cell? wr _ y1)
                have y2 := Gb.cell y2 (World.block_lt_of_cell? wr _ y2)
                have y3 := Gb.cell y3 (World.block_lt_of_cell? wr _ y3)
                have y4 := Gb.cell y4 (World.block_lt_of_cell? wr _ y4)
                have y5 := Gb.cell y5 (World.block_lt_of_cell? wr _ y5)
                go_wp2_with fail
                refine region_below (by kernel_rfl) (by kernel_rfl) ?_
                repeat (go_big_quiet_step ((go_at_call 56; exact Gb.calls _ (HIS.out _))))
                refine wpQuiet_nil ?_
                rintro _ ⟨g9, rfl⟩
                have HB9 := Lib.hid (HB.out.trans (g9.below.mono HB.out.size))
                generalize g9.at' = w9 at HB9 ⊢
                clear y0 y1 y2 y3 y4 y5 x0 x1 x2 x3 x4 x5 g9 HB z3 z4
                have w1 : wrap64 ((j : Int) + 1) = (j : Int) + 1 := IntWalk.wrap64_in _ (by have := HJ.out; have := HGL.out; omega)
                go_wp2_with fail
                go_roundg (G.length - (j + 1))
                case measure => have := HJ.out; omega
                case rel => exact ⟨j + 1, by have := HJ.out; omega, by go_num, HB9.out⟩
              · obtain rfl : j = G.length := by omega
                have HB := Lib.hid (HB5.out.trans (hb.mono HB5.out.size))
                clear hb
                go_wp2_with fail
                go_ret
                exact ⟨rfl, HB.out⟩
          · obtain ⟨W6, hW6⟩ : ∃ W6, W6 = ((((((wc.setCell ⟨za, 0, none⟩ (.int .u8 0)).setCell ⟨za, 1, none⟩ (.int .i64 (-9223372036854775808))).setCell ⟨za, 2, none⟩ (.string ⟨#[]⟩)).setCell ⟨zb, 0, none⟩ (.int .u8 255)).setCell ⟨zb, 1, none⟩ (.int .i64 (0))).setCell ⟨zb, 2, none⟩ (.string ⟨#[]⟩)) := ⟨_, rfl⟩
            have HE := Lib.hid (show C3 W6 za 82 (.int .u8 (fromK fa true).1) (.int .i64 (fromK fa true).2.1) (.string (fromK fa true).2.2) ∧ C3 W6 zb 82 (.int .u8 (toK ta true).1) (.int .i64 (toK ta true).2.1) (.string (toK ta true).2.2) ∧ Below w4.heap.size w4 W6 from by
              rw [hW6]
              exact ⟨((((HC.out.1.set0 (.int .u8 0)).set1 (.int .i64 (-9223372036854775808))).set2 (.string ⟨#[]⟩)).kp (show Kp (fun q => q = zb) (((wc.setCell ⟨za, 0, none⟩ (.int .u8 0)).setCell ⟨za, 1, none⟩ (.int .i64 (-9223372036854775808))).setCell ⟨za, 2, none⟩ (.string ⟨#[]⟩)) ((((((wc.setCell ⟨za, 0, none⟩ (.int .u8 0)).setCell ⟨za, 1, none⟩ (.int .i64 (-9223372036854775808))).setCell ⟨za, 2, none⟩ (.string ⟨#[]⟩)).setCell ⟨zb, 0, none⟩ (.int .u8 255)).setCell ⟨zb, 1, none⟩ (.int .i64 (0))).setCell ⟨zb, 2, none⟩ (.string ⟨#[]⟩)) from (((Kp.refl (fun q => q = zb) (((wc.setCell ⟨za, 0, none⟩ (.int .u8 0)).setCell ⟨za, 1, none⟩ (.int .i64 (-9223372036854775808))).setCell ⟨za, 2, none⟩ (.string ⟨#[]⟩))).setCell (.inl rfl) _).setCell (.inl rfl) _).setCell (.inl rfl) _) (fun e => HZ.out.1 e)), ((((HC.out.2.1.kp (show Kp (fun q => q = za) wc (((wc.setCell ⟨za, 0, none⟩ (.int .u8 0)).setCell ⟨za, 1, none⟩ (.int .i64 (-9223372036854775808))).setCell ⟨za, 2, none⟩ (.string ⟨#[]⟩)) from (((Kp.refl (fun q => q = za) wc).setCell (.inl rfl) _).setCell (.inl rfl) _).setCell (.inl rfl) _) (fun e => HZ.out.1 e.symm)).set0 (.int .u8 255)).set1 (.int .i64 0)).set2 (.string ⟨#[]⟩)), (below_kp (below_kp HC.out.2.2 (show Kp (fun q => q = za) wc (((wc.setCell ⟨za, 0, none⟩ (.int .u8 0)).setCell ⟨za, 1, none⟩ (.int .i64 (-9223372036854775808))).setCell ⟨za, 2, none⟩ (.string ⟨#[]⟩)) from (((Kp.refl (fun q => q = za) wc).setCell (.inl rfl) _).setCell (.inl rfl) _).setCell (.inl rfl) _) (fun q e => by have := HZ.out.2.1; omega)) (show Kp (fun q => q = zb) (((wc.setCell ⟨za, 0, none⟩ (.int .u8 0)).setCell ⟨za, 1, none⟩ (.int .i64 (-9223372036854775808))).setCell ⟨za, 2, none⟩ (.string ⟨#[]⟩)) ((((((wc.setCell ⟨za, 0, none⟩ (.int .u8 0)).setCell ⟨za, 1, none⟩ (.int .i64 (-9223372036854775808))).setCell ⟨za, 2, none⟩ (.string ⟨#[]⟩)).setCell ⟨zb, 0, none⟩ (.int .u8 255)).setCell ⟨zb, 1, none⟩ (.int .i64 (0))).setCell ⟨zb, 2, none⟩ (.string ⟨#[]⟩)) from (((Kp.refl (fun q => q = zb) (((wc.setCell ⟨za, 0, none⟩ (.int .u8 0)).setCell ⟨za, 1, none⟩ (.int .i64 (-9223372036854775808))).setCell ⟨za, 2, none⟩ (.string ⟨#[]⟩))).setCell (.inl rfl) _).setCell (.inl rfl) _).setCell (.inl rfl) _) (fun q e => by have := HZ.out.2.2; omega))⟩)
            go_upto_region 15 with fail
            rw [← hW6]
            clear c0 c1 c2 f0 f1 f2 d0 d1 d2 h0 h1 h2 x3 x7 ne1 ne2 lk1 lk2 lk3 lk4 HC
            clear hW6
            obtain ⟨c0, c1, c2, _⟩ := HE.out.1.all
            obtain ⟨d0, d1, d2, _⟩ := HE.out.2.1.all
            go_wp2_with fail
            refine (rbetween11 _ (.slice Av L.length cv) (fromK fa true) (toK ta true) m L W6 (by have := HX.out.2.2.2.2.2.2.1; omega) (Nat.zero_le _) (Nat.zero_le _) (fun q hq => by have := (HX.out.2.2.2.2.2.1 q hq).1.2.2; omega) ((Kp.of_below (HB4.out.trans (HE.out.2.2.mono HB4.out.size)) (fun _ => False)).own HX.out.2.2.2.2.1 (fun _ _ => id))).mono ?_
            rintro e w5 ⟨vw, rfl, hown, hb5⟩
            rw [← HGG.out] at hown
            obtain ⟨Aw, cw, rfl, _⟩ := (Rd.of_own hown).form
            have hb45 := HE.out.2.2.trans (hb5.mono HE.out.2.2.size)
            have H1 := Lib.hid (Rd.of_own ((Kp.of_below hb45 (fun _ => False)).own HOW.out (fun _ _ => id)))
            have H2 := Lib.hid (Rd.of_own hown)
            have hX8 := HX.out.2.2.2.2.2.2.2.1
            have HB5 := Lib.hid ((hX8.trans (HB4.out.mono hX8.size)).trans (hb45.mono (by have := hX8.size; have := HB4.out.size; omega)))
            have hGl : G.length ≤ 200 := by have := btF_le (n := m) (ib := inK (fromK fa true) (toK ta true)) L []; rw [← HGG.out] at this; have := HX.out.2.2.2.2.2.2.1; simp at *; omega
            have HGL := Lib.hid hGl
            clear hown hb5 hb45 hX8 hGl c0 c1 c2 d0 d1 d2 HE
            go_wp2_with fail
            go_loopg [95] G.length (fun c' i wr => ∃ j : Nat, j + c' = G.length ∧ i = .int .i64 j ∧ Below w5.heap.size w5 wr)
            case atStart => exact ⟨0, by omega, rfl, Below.refl _ _⟩
            case round =>
              obtain ⟨j, hj, rfl, hb⟩ := hrel
              by_cases hlt : j < G.length
              · obtain ⟨x, hx⟩ : ∃ x, G[j]? = some x := ⟨_, List.getElem?_eq_getElem hlt⟩
                obtain ⟨g1, o1, _, e1, x0, x1, x2, x3, x4, x5⟩ := rd6 (H1.out.below hb) hx
                obtain ⟨g2, o2, _, e2, y0, y1, y2, y3, y4, y5⟩ := rd6 (H2.out.below hb) hx
                simp only [Value.slice.injEq, true_and] at e1 e2
                obtain ⟨rfl, rfl⟩ := e1
                obtain ⟨rfl, rfl⟩ := e2
                have HB := Lib.hid hb
                have HJ := Lib.hid (And.intro hj hlt)
                have z3 : (0 : Int) ≤ (j : Int) := by omega
                have z4 : (j : Int) < (G.length : Int) := by omega
                clear hb hx hj hlt
                have HIS := Lib.hid (fun W => lis12 x W)
                have x0 := Gb.cell x0 (World.block_lt_of_cell? wr _ x0)
                have x1 := Gb.cell x1 (World.block_lt_of_cell? wr _ x1)
                have x2 := Gb.cell x2 (World.block_lt_of_cell? wr _ x2)
                have x3 := Gb.cell x3 (World.block_lt_of_cell? wr _ x3)
                have x4 := Gb.cell x4 (World.block_lt_of_cell? wr _ x4)
                have x5 := Gb.cell x5 (World.block_lt_of_cell? wr _ x5)
                have y0 := Gb.cell y0 (World.block_lt_of_cell? wr _ y0)
                have y1 := Gb.cell y1 (World.block_lt_of_cell? wr _ y1)
                have y2 := Gb.cell y2 (World.block_lt_of_cell? wr _ y2)
                have y3 := Gb.cell y3 (World.block_lt_of_cell? wr _ y3)
                have y4 := Gb.cell y4 (World.block_lt_of_cell? wr _ y4)
                have y5 := Gb.cell y5 (World.block_lt_of_cell? wr _ y5)
                go_wp2_with fail
                refine region_below (by kernel_rfl) (by kernel_rfl) ?_
                repeat (go_big_quiet_step ((go_at_call 56; exact Gb.calls _ (HIS.out _))))
                refine wpQuiet_nil ?_
                rintro _ ⟨g9, rfl⟩
                have HB9 := Lib.hid (HB.out.trans (g9.below.mono HB.out.size))
                generalize g9.at' = w9 at HB9 ⊢
                clear y0 y1 y2 y3 y4 y5 x0 x1 x2 x3 x4 x5 g9 HB z3 z4
                have w1 : wrap64 ((j : Int) + 1) = (j : Int) + 1 := IntWalk.wrap64_in _ (by have := HJ.out; have := HGL.out; omega)
                go_wp2_with fail
                go_roundg (G.length - (j + 1))
                case measure => have := HJ.out; omega
                case rel => exact ⟨j + 1, by have := HJ.out; omega, by go_num, HB9.out⟩
              · obtain rfl : j = G.length := by omega
                have HB := Lib.hid (HB5.out.trans (hb.mono HB5.out.size))
                clear hb
                go_wp2_with fail
                go_ret
                exact ⟨rfl, HB.out⟩
end
end Go.Proofs.YtkkfhbcnfknmaaaGreat

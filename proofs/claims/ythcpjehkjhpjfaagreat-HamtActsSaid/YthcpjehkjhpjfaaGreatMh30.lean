/- Several texts in one. -/
import Derived.Test.YthcpjehkjhpjfaaGreatMh29
import Derived.Test.YthcpjehkjhpjfaaGreatMh23
import Derived.IntWalk
import Derived.Test.YthcpjehkjhpjfaaGreatMh11
set_option linter.unusedSimpArgs false
namespace Go.Proofs.YthcpjehkjhpjfaaGreat
set_option maxRecDepth 100000
open Go.RowKit
structure S6 (x : Wv) (z1 g4 p j : Nat) (W : World) : Prop where
  wy : WC W z1 x
  kc : W.cell? ⟨g4, p, none⟩ = some (.int .i64 (j : Nat))
theorem S6.below {x : Wv} {z1 g4 p j : Nat} {W W' : World} (h : S6 x z1 g4 p j W) (hb : Below W.heap.size W W') : S6 x z1 g4 p j W' :=
  ⟨h.wy.below hb, (Kp.of_below hb (fun _ => False)).cell h.kc id⟩
structure S9 (x : Wv) (z1 z5 gK : Nat) (c : Hc) (A1 : Option Addr) (c1 c2 t ot : Nat) (W : World) : Prop where
  wy : WC W z1 x
  cc : C5 W z5 136 (.int .u32 c.owner) (.int .u32 c.a) (.int .u32 c.b) (.slice A1 c.vals.length c1) (.slice (some ⟨gK, 0, none⟩) c.kids.length c2)
  kc : W.cell? ⟨gK, t, none⟩ = some (.int .i64 (ot : Nat))
theorem S9.kp {x : Wv} {z1 z5 gK : Nat} {c : Hc} {A1 : Option Addr} {c1 c2 t ot z7 : Nat} {W W' : World} (h : S9 x z1 z5 gK c A1 c1 c2 t ot W) (hk : Kp (fun q => q = z7) W W') (hn : ¬ (z1 = z7 ∨ z5 = z7 ∨ gK = z7)) : S9 x z1 z5 gK c A1 c1 c2 t ot W' :=
  ⟨h.wy.kp hk (fun e => hn (.inl e)), h.cc.kp hk (fun e => hn (.inr (.inl e))), hk.cell h.kc (fun e => hn (.inr (.inr e)))⟩
theorem S9.below {x : Wv} {z1 z5 gK : Nat} {c : Hc} {A1 : Option Addr} {c1 c2 t ot : Nat} {W W' : World} (h : S9 x z1 z5 gK c A1 c1 c2 t ot W) (hb : Below W.heap.size W W') : S9 x z1 z5 gK c A1 c1 c2 t ot W' :=
  ⟨h.wy.below hb, h.cc.below hb, (Kp.of_below hb (fun _ => False)).cell h.kc id⟩
section
variable {most : Nat} {M : Cells} {F : Nat → Prop} {hs : Ky → Nat} {l lf : List Pr}
set_option maxHeartbeats 6000000 in
theorem vtake (x : Wv) (k : Ky) (cl : List (Nat × Nat)) (P : Nat → Nat) (w : World) (h : Ar w x.b most M F) (hm : most ≤ 1048576) (hg : hs k = x.g) (hb : Bk (most + 1) M [] P [x.root]) (hP : ∀ j, P j ≤ 576460752303423488)
    (hW : Wy M hs (hs k) 0 x.root l cl lf) (hk : hasN k lf = true) (hsr : Srt hs l) (hlen : l.length ≤ 4096)
    (o4 : w.ownsRow 0 3 1 (.slice x.A4 x.n4 x.c4) x.n4 (nums (ns (cl.map Prod.fst))))
    (hn4 : x.n4 = cl.length) (hn6 : x.n6 = (flatP lf).length) (hat : x.at' = 2 * lowN k lf) :
    Calls Tryz.prog 94 #[wagg x] w fun e w' => (e = .returned (.tuple #[.int .i64 0, .int .i64 5]) ∧ most < live (most + 1) M + 16 ∧ Below w.heap.size w w') ∨
      ∃ (n : Nat) (M' : Cells), e = .returned (.tuple #[.int .i64 (n : Nat), .int .i64 0]) ∧ MapR most M P hs x.root x.ow (takeL k l) n M' ∧ Stp w w' x.b most M' F := by
  have hlf : lf.length ≤ 4096 := Nat.le_trans hW.sublist.length_le hlen
  have hcl14 := hW.cl_len
  have hl1 : 1 ≤ lf.length := by
    obtain ⟨v, hv⟩ := hasN_at hk
    have := (List.getElem?_eq_some_iff.1 hv).1
    omega
  have h6 : x.n6 = 2 * lf.length := by rw [hn6, flatP_length]
  obtain ⟨last, hlast⟩ : ∃ last, last + 1 = cl.length := by
    obtain ⟨pre, j, lvj, e, _⟩ := hW.leafAt hk
    exact ⟨pre.length, by rw [e]; simp⟩
  have hq : IntKind.i64.wrap ((x.n4 : Int) - 1) = (last : Int) := by rw [IntWalk.i64_in _ (by omega)]; omega
  obtain ⟨W0, hW0⟩ : ∃ W0, W0 = w.alloc (.cells (wcells x) 162) := ⟨_, rfl⟩
  have hb0 : Below w.heap.size w W0 := by rw [hW0]; exact (Below.refl _ w).alloc (Nat.le_refl _) _
  have q1 : WC W0 w.heap.size x := by rw [hW0]; exact WC.new w x
  have hFl : ∀ q, F q → q < w.heap.size := fun q hq => h.lt hq
  have hfl : ∀ l', freshN M x.ow l' ≤ l'.length := fun l' => freshN_le M x.ow l'
  have HB0 := Lib.hid hb0
  have HFL := Lib.hid hFl
  have HSR := Lib.hid hsr
  have HA := Lib.hid (And.intro (h.below hb0) (And.intro hm (And.intro hg (And.intro hb (And.intro hP (And.intro hW hk))))))
  have HRW := Lib.hid (And.intro ((Kp.of_below hb0 (fun _ => False)).own o4 (fun _ _ h => h)) (And.intro hn4 (And.intro hat (And.intro hlf (And.intro hcl14 (And.intro hlast hl1))))))
  have hnF : ¬ F w.heap.size := fun hf => by have := hFl _ hf; omega
  have HW0 := Lib.hid hW0
  clear h hm hg hb hP hW hk hsr hlen o4 hn4 hn6 hat hlf hcl14 hlast hl1 hb0 hFl hW0
  obtain ⟨z1, hz1⟩ : ∃ z1, z1 = w.heap.size := ⟨_, rfl⟩
  rw [← hz1] at q1 hnF
  have HZ := Lib.hid hz1
  have HQ := Lib.hid (And.intro q1 hnF)
  have H6 := Lib.hid h6
  have HFR := Lib.hid hfl
  obtain ⟨m0, m1, m2, m3, m4, m5, m6, m7, m8, m9⟩ := q1.all
  clear q1 hnF hz1 h6 hfl
  go_enter Tryz.func94, Tryz.ntmps94
  go_upto_region 1 with fail
  rw [← HW0.out, ← HZ.out]
  clear HW0
  by_cases h2 : 2 ≤ lf.length
  · have hx6 : (2 : Int) < (x.n6 : Int) := by have := H6.out; omega
    go_wp2_with fail
    obtain ⟨hAr, hm, hg, hb, hP, hW, hk⟩ := HA.out
    obtain ⟨o4, hn4, hat, hlf, hcl14, hlast, hl1⟩ := HRW.out
    obtain ⟨pre, j, lvj, rfl, hwp, c, r, hL⟩ := hW.leafAt hk
    have hpl : pre.length = last := by simp at hlast; omega
    rw [← hpl]
    have HB16 := Lib.hid (show freshN M x.ow (pre.map Prod.fst ++ [j]) + 0 ≤ 16 by
      have := HFR.out (pre.map Prod.fst ++ [j])
      simp only [List.length_append, List.length_map, List.length_singleton] at this hcl14
      omega)
    refine (vtake_leaf x z1 j lvj pre c r P W0 hAr hm hg hb hP hwp hL hk h2 hlf (by simp at hcl14; omega) o4 hn4 hat HQ.out.1 HQ.out.2).mono ?_
    clear hAr hm hg hb hP hW hk o4 hn4 hat hlf hcl14 hlast hl1 hwp hL hpl
    rintro e W9 (⟨rfl, hr, hb9⟩ | ⟨n, M', rfl, n1, hr, hs9⟩)
    · have hE := Lib.hid (And.intro (show most < live (most + 1) M + 16 by have := HB16.out; omega) (HB0.out.trans (hb9.mono HB0.out.size)))
      clear hr hb9
      go_wp2_with fail
      exact bodyPost_ret (v := .tuple #[.int .i64 0, .int .i64 5]) (by simp [results, Tryz.results94, go_sem]) rfl (.inl ⟨rfl, hE.out⟩)
    · have hE := Lib.hid (And.intro ((hr.le HB16.out).take HSR.out) (Stp.from HFL.out HB0.out hs9))
      clear hr hs9 n1
      go_wp2_with fail
      exact bodyPost_ret (v := .tuple #[.int .i64 (n : Nat), .int .i64 0]) (by simp [results, Tryz.results94, go_sem]) rfl (.inr ⟨n, M', rfl, hE.out⟩)
  · have hx6 : ¬ (2 : Int) < (x.n6 : Int) := by have := H6.out; omega
    by_cases hl0 : last = 0
    · have hl0' : (last : Int) = 0 := by omega
      go_wp2_with fail
      obtain ⟨hAr, hm, hg, hb, hP, hW, hk⟩ := HA.out
      obtain ⟨o4, hn4, hat, hlf, hcl14, hlast, hl1⟩ := HRW.out
      obtain ⟨g0, hA4⟩ : ∃ g0, x.A4 = some ⟨g0, 0, none⟩ := by
        rcases o4.2 with ⟨_, e⟩ | ⟨g, cap, cur, e, _⟩
        · rw [hn4] at e; omega
        · simp only [Value.slice.injEq] at e
          exact ⟨g, e.1⟩
      rw [hA4] at o4
      have hcap := (own_cap o4).1
      have htk : takeL k l = [] := by
        rcases hW.parts hk with ⟨_, e⟩ | ⟨pre, j, b, y, lvj, lj, e, _⟩
        · subst e
          obtain ⟨v, e⟩ := one_of hk h2
          rw [e]
          simp [takeL]
        · rw [e] at hlast; simp at hlast; omega
      refine (vtake_root (hs := hs) x z1 g0 P W0 hAr hm hb hP hA4 (by omega) hcap (fun W hW2 => by
        have h1 := (Kp.of_below hW2 (fun _ => False)).own o4 (fun _ _ h => h)
        have h3 := own_first h1 (Nat.zero_le x.n4)
        rw [Nat.zero_mul, List.take_zero] at h3
        exact Rd.of_own h3) HQ.out.1 HQ.out.2).mono ?_
      have HTK := Lib.hid htk
      clear hAr hm hg hb hP hW hk o4 hn4 hat hlf hcl14 hlast hl1 hA4 hcap htk
      rintro e W9 ⟨M', rfl, hr, hs9⟩
      rw [← HTK.out] at hr
      have hE := Lib.hid (And.intro hr (Stp.from HFL.out HB0.out hs9))
      clear hr hs9
      go_wp2_with fail
      exact bodyPost_ret (v := .tuple #[.int .i64 0, .int .i64 0]) (by simp [results, Tryz.results94, go_sem]) rfl (.inr ⟨0, M', rfl, hE.out⟩)
    · have hl0' : ¬ (last : Int) = 0 := by omega
      obtain ⟨pre, j, b, y, lvj, lj, hcl, hwp, hwy⟩ : ∃ pre j b y lvj lj, cl = pre ++ [(j, b), y] ∧ Wp M hs k 0 x.root l pre lvj j lj ∧ Wy M hs (hs k) lvj j lj [(j, b), y] lf := by
        rcases HA.out.2.2.2.2.2.1.parts HA.out.2.2.2.2.2.2 with ⟨e, _⟩ | h
        · have := HRW.out.2.2.2.2.2.1
          rw [e] at this
          simp at this
          omega
        · exact h
      obtain ⟨c, r, s, K, L, hN, hT, hbit, hsx, hLd, hb13, hKd⟩ := hwy.last HA.out.2.2.2.2.2.2
      have hlp : last = pre.length + 1 := by have := HRW.out.2.2.2.2.2.1; rw [hcl] at this; simp at this; omega
      have hq2 : IntKind.i64.wrap ((last : Int) - 1) = (pre.length : Int) := by rw [IntWalk.i64_in _ (by have := HRW.out.2.2.2.2.1; have := HRW.out.2.2.2.2.2.1; omega)]; omega
      have o4c := HRW.out.1
      rw [hcl] at o4c
      obtain ⟨g4, c4', e4, hc4, kc4, _⟩ := own_at o4c (j := pre.length) (u := .int .i64 (j : Nat)) (by simp [nums, ns])
      simp only [Value.slice.injEq, true_and] at e4
      have hi0 : (0 : Int) ≤ (pre.length : Int) := by omega
      have hi1 : (pre.length : Int) < (x.n4 : Int) := by have := HRW.out.2.1; rw [hcl] at this; simp at this; omega
      have s0 : S6 x z1 g4 pre.length j W0 := ⟨HQ.out.1, kc4⟩
      have o4' := HRW.out.1
      rw [e4.1] at o4'
      have hg4 : g4 < W0.heap.size := (own_blk o4' g4 rfl).2
      have HLT := Lib.hid (And.intro HQ.out.1.lt hg4)
      have HGET := Lib.hid (And.intro HA.out.1 hN.cell)
      have x5 : x.A4 = some ⟨g4, 0, none⟩ := e4.1
      have X5 := Lib.hid x5
      have HC := Lib.hid (And.intro hcl (And.intro hwp (And.intro hwy (And.intro hN (And.intro hT (And.intro hbit (And.intro hsx (And.intro hLd (And.intro hb13 (And.intro hKd hlp))))))))))
      have l0 : ∀ W, S6 x z1 g4 pre.length j W → W.cell? ⟨z1, 0, none⟩ = some (ap x.b) := fun W h => h.wy.at rfl
      have l5 : ∀ W, S6 x z1 g4 pre.length j W → W.cell? ⟨z1, 5, none⟩ = some (.slice (some ⟨g4, 0, none⟩) x.n4 x.c4) := fun W h => by rw [← x5]; exact h.wy.at rfl
      have lk : ∀ W, S6 x z1 g4 pre.length j W → W.cell? ⟨g4, pre.length, none⟩ = some (.int .i64 (j : Nat)) := fun W h => h.kc
      clear hcl hwp hwy hN hT hbit hsx hLd hb13 hKd hlp o4c o4' e4 hc4 kc4 hg4 x5
      go_upto_region 6 with fail
      clear m0 m1 m2 m3 m4 m5 m6 m7 m8 m9
      rw [show ((last : Int) == 0) = false by simpa using hl0]
      go_cut [5, 6] from 29 to 41 (fun s5 s6 wc => ∃ z5 A1 c1 A2 c2, s5 = .pointer (some ⟨z5, 0, none⟩) ∧ s6 = .bool true ∧ C5 wc z5 136 (.int .u32 c.owner) (.int .u32 c.a) (.int .u32 c.b) (.slice A1 c.vals.length c1) (.slice A2 c.kids.length c2) ∧ wc.ownsRow W0.heap.size 3 1 (.slice A2 c.kids.length c2) c.kids.length (nums (ns c.kids)) ∧ Below W0.heap.size W0 wc ∧ W0.heap.size ≤ z5)
      case first =>
        refine wp_region_noPanic ?_
        refine wp_region_held_drew (S := fun W => S6 x z1 g4 pre.length j W) (by kernel_rfl) (s0.below (Below.refl _ W0).drew) (fun hH => ?_)
        have s1 := s0.below (Below.refl _ W0).drew
        have bl1 : Below W0.heap.size W0 W0.drew := (Below.refl _ W0).drew
        clear s0
        generalize W0.drew = W1 at s1 bl1 hH ⊢
        refine tkH ?_ 0 hH ?_ ?_; rotate_left
        · intro W' hS; go_simp; with_reducible rfl
        simp only [tkr]
        refine tkH ?_ 1 hH ?_ ?_; rotate_left
        · intro W' hS; go_simp; with_reducible rfl
        simp only [tkr]
        refine tkH ?_ 2 hH ?_ ?_; rotate_left
        · intro W' hS; go_simp; with_reducible rfl
        simp only [tkr]
        refine tkH ?_ 3 hH ?_ ?_; rotate_left
        · intro W' hS; go_simp; with_reducible rfl
        simp only [tkr]
        refine tkH ?_ 4 hH ?_ ?_; rotate_left
        · intro W' hS; go_simp; with_reducible rfl
        simp only [tkr]
        refine tkH ?_ 5 hH ?_ ?_; rotate_left
        · intro W' hS; go_simp; with_reducible rfl
        simp only [tkr]
        refine tkH ?_ 6 hH ?_ ?_; rotate_left
        · intro W' hS; go_simp; with_reducible rfl
        simp only [tkr]
        refine tkH ?_ 7 hH ?_ ?_; rotate_left
        · intro W' hS; go_simp; with_reducible rfl
        simp only [tkr]
        refine tkH ?_ 8 hH ?_ ?_; rotate_left
        · intro W' hS; go_simp; with_reducible rfl
        simp only [tkr]
        refine wpAnyH_ready (rs := [9, 13]) (by kernel_rfl) (by simp) ?_
        refine AllReadyH.cons rfl (fun K hK => ?_) (AllReadyH.cons rfl (fun K hK => ?_) AllReadyH.nil)
        · go_simp
          refine (get j c r x.b most M F W1 (HGET.out.1.below bl1) HGET.out.2).mono ?_
          rintro e W2 ⟨V, K', rfl, ov, ok', hb2⟩
          obtain ⟨A1, c1, rfl, _⟩ := (Rd.of_own ov).form
          obtain ⟨A2, c2, rfl, _⟩ := (Rd.of_own ok').form
          have bl2 := bl1.trans (hb2.mono bl1.size)
          have s2 := s1.below hb2
          replace ok' := own_base ok' bl1.size
          clear ov
          simp only
          refine hK.out _ _ ?_ (fun hH => ?_)
          · exact s2
          clear hK K
          refine tkH ?_ 10 hH ?_ ?_; rotate_left
          · intro W' hS; go_simp; with_reducible rfl
          simp only [tkr]
          refine tkH ?_ 11 hH ?_ ?_; rotate_left
          · intro W' hS; go_simp; with_reducible rfl
          simp only [tkr]
          refine tkH ?_ 12 hH ?_ ?_; rotate_left
          · intro W' hS; go_simp; with_reducible rfl
          simp only [tkr]
          refine rdH 13 rfl (fun K hK => ?_)
          go_simp
          have q5 := C5.new W2 136 (.int .u32 0) (.int .u32 0) (.int .u32 0) (.slice none 0 0) (.slice none 0 0)
          have hb3 : Below W2.heap.size W2 (W2.alloc (.cells #[.int .u32 0, .int .u32 0, .int .u32 0, .slice none 0 0, .slice none 0 0] 136)) := (Below.refl _ W2).alloc (Nat.le_refl _) _
          have bl3 := bl2.trans (hb3.mono bl2.size)
          have s3 := s2.below hb3
          replace ok' := (Kp.of_below hb3 (fun _ => False)).own ok' (fun _ _ h => h)
          have hz5 := bl2.size
          refine hK.out _ _ ?_ (fun hH => ?_)
          · exact s3
          clear hK K hb3
          generalize W2.alloc (.cells #[.int .u32 0, .int .u32 0, .int .u32 0, .slice none 0 0, .slice none 0 0] 136) = W3 at q5 bl3 s3 ok' hH ⊢
          generalize W2.heap.size = z5 at q5 hz5 ⊢
          refine rdH 14 rfl (fun K hK => ?_)
          obtain ⟨d0, d1, d2, d3, d4, f0, f1, f2, f3, f4⟩ := q5.all
          go_simp
          clear d0 d1 d2 d3 d4 f0 f1 f2 f3 f4
          have hP := ((((q5.set0 (.int .u32 c.owner)).set1 (.int .u32 c.a)).set2 (.int .u32 c.b)).set3 (.slice A1 c.vals.length c1)).set4 (.slice A2 c.kids.length c2)
          have hk5 : Kp (fun q => q = z5) W3 (((((W3.setCell ⟨z5, 0, none⟩ (.int .u32 c.owner)).setCell ⟨z5, 1, none⟩ (.int .u32 c.a)).setCell ⟨z5, 2, none⟩ (.int .u32 c.b)).setCell ⟨z5, 3, none⟩ (.slice A1 c.vals.length c1)).setCell ⟨z5, 4, none⟩ (.slice A2 c.kids.length c2)) := ((((((Kp.refl (fun q => q = z5) W3).setCell (.inl rfl) _).setCell (.inl rfl) _).setCell (.inl rfl) _).setCell (.inl rfl) _).setCell (.inl rfl) _)
          have hz5n : ∀ q, (Value.slice A2 c.kids.length c2).ownBlock = some q → ¬ q = z5 := fun q hq => own_ne ok' q5 (by decide) q hq
          replace ok' := hk5.own ok' hz5n
          have bl9 := below_kp bl3 hk5 (fun q e => by rw [e]; exact hz5)
          have s9 : S6 x z1 g4 pre.length j (((((W3.setCell ⟨z5, 0, none⟩ (.int .u32 c.owner)).setCell ⟨z5, 1, none⟩ (.int .u32 c.a)).setCell ⟨z5, 2, none⟩ (.int .u32 c.b)).setCell ⟨z5, 3, none⟩ (.slice A1 c.vals.length c1)).setCell ⟨z5, 4, none⟩ (.slice A2 c.kids.length c2)) := ⟨s3.wy.kp hk5 (by have := HLT.out; omega), hk5.cell s3.kc (by have := HLT.out; omega)⟩
          generalize ((((W3.setCell ⟨z5, 0, none⟩ (.int .u32 c.owner)).setCell ⟨z5, 1, none⟩ (.int .u32 c.a)).setCell ⟨z5, 2, none⟩ (.int .u32 c.b)).setCell ⟨z5, 3, none⟩ (.slice A1 c.vals.length c1)).setCell ⟨z5, 4, none⟩ (.slice A2 c.kids.length c2) = W9 at hP ok' bl9 s9 ⊢
          refine hK.out _ _ ?_ (fun hH => ?_)
          · exact s9
          clear hK K hk5 hz5n
          refine tkH ?_ 15 hH ?_ ?_; rotate_left
          · intro W' hS; go_simp; with_reducible rfl
          simp only [tkr]
          refine wpAnyH_done (by kernel_rfl) ?_ _
          refine NoPanic.normal ?_
          clear l0 l5 lk hH
          have HE := Lib.hid (And.intro hP (And.intro ok' (And.intro bl9 hz5)))
          clear hP ok' bl9 s9 q5
          go_wp2_with fail
          go_meet
          exact ⟨z5, A1, c1, A2, c2, rfl, rfl, HE.out⟩
        · go_simp
          have q5 := C5.new W1 136 (.int .u32 0) (.int .u32 0) (.int .u32 0) (.slice none 0 0) (.slice none 0 0)
          have hb2 : Below W1.heap.size W1 (W1.alloc (.cells #[.int .u32 0, .int .u32 0, .int .u32 0, .slice none 0 0, .slice none 0 0] 136)) := (Below.refl _ W1).alloc (Nat.le_refl _) _
          have bl2 := bl1.trans (hb2.mono bl1.size)
          have s2 := s1.below hb2
          have hz5 := bl1.size
          refine hK.out _ _ ?_ (fun hH => ?_)
          · exact s2
          clear hK K hb2
          generalize W1.alloc (.cells #[.int .u32 0, .int .u32 0, .int .u32 0, .slice none 0 0, .slice none 0 0] 136) = W2 at q5 bl2 s2 hH ⊢
          generalize W1.heap.size = z5 at q5 hz5 ⊢
          refine rdH 9 rfl (fun K hK => ?_)
          go_simp
          refine (get j c r x.b most M F W2 (HGET.out.1.below bl2) HGET.out.2).mono ?_
          rintro e W3 ⟨V, K', rfl, ov, ok', hb3⟩
          obtain ⟨A1, c1, rfl, _⟩ := (Rd.of_own ov).form
          obtain ⟨A2, c2, rfl, _⟩ := (Rd.of_own ok').form
          have bl3 := bl2.trans (hb3.mono bl2.size)
          have s3 := s2.below hb3
          replace ok' := own_base ok' bl2.size
          clear ov
          replace q5 := q5.below hb3
          simp only
          refine hK.out _ _ ?_ (fun hH => ?_)
          · exact s3
          clear hK K
          refine tkH ?_ 10 hH ?_ ?_; rotate_left
          · intro W' hS; go_simp; with_reducible rfl
          simp only [tkr]
          refine tkH ?_ 11 hH ?_ ?_; rotate_left
          · intro W' hS; go_simp; with_reducible rfl
          simp only [tkr]
          refine tkH ?_ 12 hH ?_ ?_; rotate_left
          · intro W' hS; go_simp; with_reducible rfl
          simp only [tkr]
          refine rdH 14 rfl (fun K hK => ?_)
          obtain ⟨d0, d1, d2, d3, d4, f0, f1, f2, f3, f4⟩ := q5.all
          go_simp
          clear d0 d1 d2 d3 d4 f0 f1 f2 f3 f4
          have hP := ((((q5.set0 (.int .u32 c.owner)).set1 (.int .u32 c.a)).set2 (.int .u32 c.b)).set3 (.slice A1 c.vals.length c1)).set4 (.slice A2 c.kids.length c2)
          have hk5 : Kp (fun q => q = z5) W3 (((((W3.setCell ⟨z5, 0, none⟩ (.int .u32 c.owner)).setCell ⟨z5, 1, none⟩ (.int .u32 c.a)).setCell ⟨z5, 2, none⟩ (.int .u32 c.b)).setCell ⟨z5, 3, none⟩ (.slice A1 c.vals.length c1)).setCell ⟨z5, 4, none⟩ (.slice A2 c.kids.length c2)) := ((((((Kp.refl (fun q => q = z5) W3).setCell (.inl rfl) _).setCell (.inl rfl) _).setCell (.inl rfl) _).setCell (.inl rfl) _).setCell (.inl rfl) _)
          have hz5n : ∀ q, (Value.slice A2 c.kids.length c2).ownBlock = some q → ¬ q = z5 := fun q hq => own_ne ok' q5 (by decide) q hq
          replace ok' := hk5.own ok' hz5n
          have bl9 := below_kp bl3 hk5 (fun q e => by rw [e]; exact hz5)
          have s9 : S6 x z1 g4 pre.length j (((((W3.setCell ⟨z5, 0, none⟩ (.int .u32 c.owner)).setCell ⟨z5, 1, none⟩ (.int .u32 c.a)).setCell ⟨z5, 2, none⟩ (.int .u32 c.b)).setCell ⟨z5, 3, none⟩ (.slice A1 c.vals.length c1)).setCell ⟨z5, 4, none⟩ (.slice A2 c.kids.length c2)) := ⟨s3.wy.kp hk5 (by have := HLT.out; omega), hk5.cell s3.kc (by have := HLT.out; omega)⟩
          generalize ((((W3.setCell ⟨z5, 0, none⟩ (.int .u32 c.owner)).setCell ⟨z5, 1, none⟩ (.int .u32 c.a)).setCell ⟨z5, 2, none⟩ (.int .u32 c.b)).setCell ⟨z5, 3, none⟩ (.slice A1 c.vals.length c1)).setCell ⟨z5, 4, none⟩ (.slice A2 c.kids.length c2) = W9 at hP ok' bl9 s9 ⊢
          refine hK.out _ _ ?_ (fun hH => ?_)
          · exact s9
          clear hK K hk5 hz5n
          refine tkH ?_ 15 hH ?_ ?_; rotate_left
          · intro W' hS; go_simp; with_reducible rfl
          simp only [tkr]
          refine wpAnyH_done (by kernel_rfl) ?_ _
          refine NoPanic.normal ?_
          clear l0 l5 lk hH
          have HE := Lib.hid (And.intro hP (And.intro ok' (And.intro bl9 hz5)))
          clear hP ok' bl9 s9 q5
          go_wp2_with fail
          go_meet
          exact ⟨z5, A1, c1, A2, c2, rfl, rfl, HE.out⟩
      case rest =>
        obtain ⟨z5, A1, c1, A2, c2, rfl, rfl, q5, ok', bl0, hz5⟩ := hcut
        obtain ⟨d0, d1, d2, d3, d4, f0, f1, f2, f3, f4⟩ := q5.all
        have q1 := HQ.out.1.below bl0
        obtain ⟨m0, m1, m2, m3, m4, m5, m6, m7, m8, m9⟩ := q1.all
        have HBW := Lib.hid (HB0.out.trans (bl0.mono HB0.out.size))
        have HX := Lib.hid (And.intro q5 (And.intro ok' (And.intro bl0 (And.intro hz5 q1))))
        have hz1n : ¬ F z1 := HQ.out.2
        clear q5 ok' bl0 hz5 q1 s0
        by_cases h3 : 2 < c.kids.length
        · have h3' : (2 : Int) < (c.kids.length : Int) := by omega
          go_wp2_with fail
          obtain ⟨hAr, hm, hg, hb, hP, hW, hk⟩ := HA.out
          obtain ⟨o4, hn4, hat, hlf, hcl14, hlast, hl1⟩ := HRW.out
          obtain ⟨hcl, hwp, hwy, hN, hT, hbit, hsx, hLd, hb13, hKd, hlp⟩ := HC.out
          have o4' := (Kp.of_below HX.out.2.2.1 (fun _ => False)).own o4 (fun _ _ h => h)
          rw [hcl] at o4' hn4 hcl14
          have HB16 := Lib.hid (show freshN M x.ow (pre.map Prod.fst ++ [j]) + 0 ≤ 16 by
            have := HFR.out (pre.map Prod.fst ++ [j])
            simp only [List.length_append, List.length_map, List.length_cons, List.length_nil] at this hcl14
            omega)
          refine (vtake_kid x j lvj b pre y lj P wc (hAr.below HX.out.2.2.1) hm hg hb hP hwp hwy hk (by omega) (fun c' r' e => by
            rw [hN.cell] at e
            cases e
            exact h3) (by simp at hcl14; omega) o4' hn4).mono ?_
          clear hAr hm hg hb hP hW hk o4 hn4 hat hlf hcl14 hlast hl1 hcl hwp hwy hN hT hbit hsx hLd hb13 hKd hlp o4'
          rintro e W9 (⟨rfl, hr, hb9⟩ | ⟨n, M', rfl, n1, hr, hs9⟩)
          · have hE := Lib.hid (And.intro (show most < live (most + 1) M + 16 by have := HB16.out; omega) (HBW.out.trans (hb9.mono HBW.out.size)))
            clear hr hb9
            go_wp2_with fail
            exact bodyPost_ret (v := .tuple #[.int .i64 0, .int .i64 5]) (by simp [results, Tryz.results94, go_sem]) rfl (.inl ⟨rfl, hE.out⟩)
          · have hE := Lib.hid (And.intro ((hr.le HB16.out).take HSR.out) (Stp.from HFL.out HBW.out hs9))
            clear hr hs9 n1
            go_wp2_with fail
            exact bodyPost_ret (v := .tuple #[.int .i64 (n : Nat), .int .i64 0]) (by simp [results, Tryz.results94, go_sem]) rfl (.inr ⟨n, M', rfl, hE.out⟩)
        · have h3' : ¬ (2 : Int) < (c.kids.length : Int) := by omega
          obtain ⟨hcl, hwp, hwy, hN, hT, hbit, hsx, hLd, hb13, hKd, hlp⟩ := HC.out
          have hc2 : cnt s 32 = 2 := by have e1 := hN.len; have e2 := hN.two; omega
          obtain ⟨m, hm⟩ : ∃ m, m = cnt s (dg (hs k) b) := ⟨_, rfl⟩
          have hd32 := dg_lt (hs k) b
          have hm2 : m < 2 := by rw [hm, ← hc2]; exact cnt_lt hbit hd32
          obtain ⟨e', he'⟩ : ∃ e', (dgs s 32)[1 - m]? = some e' := ⟨_, List.getElem?_eq_getElem (by rw [dgs_len, hc2]; omega)⟩
          obtain ⟨he32, hebit, hecnt⟩ := dgs_back s 32 (1 - m) e' he'
          have hed : e' ≠ dg (hs k) b := fun e2 => by rw [e2, ← hm] at hecnt; omega
          have hke := hN.kid e' he32 hebit
          rw [hecnt] at hke
          obtain ⟨gK, cK, eK, _, kcK, _⟩ := own_at HX.out.2.1 (nsn_at hke)
          simp only [Value.slice.injEq, true_and] at eK
          obtain ⟨rfl, rfl⟩ := eK
          have hgx : hs k = x.g := HA.out.2.2.1
          have HSD := Lib.hid (fun (W : World) => (show Calls Tryz.prog 136 #[cagg c.owner c.a c.b (.slice A1 c.vals.length c1) (.slice (some ⟨gK, 0, none⟩) c.kids.length c2), .int .u64 (x.g : Nat)] W fun e W' => e = .returned (.int .i64 (m : Nat)) ∧ Below W.heap.size W W' from by
            have h1 := vside c.owner s b x.g A1 (some ⟨gK, 0, none⟩) c.vals.length c1 c.kids.length c2 W hN.s32 hb13
            rw [← hN.ca, ← hN.cb, ← hgx, hsx, ← hm] at h1
            rw [← hgx]
            exact h1))
          have hwm : IntKind.i64.wrap (1 - (m : Int)) = ((1 - m : Nat) : Int) := by rw [IntWalk.i64_in _ (by omega)]; omega
          have hi2 : ((1 - m : Nat) : Int) < (c.kids.length : Int) := by have e1 := hN.len; omega
          have hi3 : (0 : Int) ≤ ((1 - m : Nat) : Int) := by omega
          obtain ⟨t, ht⟩ : ∃ t, t = 1 - m := ⟨_, rfl⟩
          rw [← ht] at kcK hwm hi2 hi3
          obtain ⟨ot, hot⟩ : ∃ ot, ot = K e' := ⟨_, rfl⟩
          rw [← hot] at kcK
          have HOT := Lib.hid hot
          have s0 : S9 x z1 z5 gK c A1 c1 c2 t ot wc := ⟨HX.out.2.2.2.2, HX.out.1, kcK⟩
          have hgKl : gK < wc.heap.size := (own_blk HX.out.2.1 gK rfl).2
          have HLT9 := Lib.hid (And.intro s0.wy.lt (And.intro s0.cc.lt hgKl))
          have HF9 := Lib.hid (And.intro hc2 (And.intro hebit hed))
          clear hcl hwp hwy hN hT hbit hsx hLd hb13 hKd hlp hc2 hm hd32 hm2 he' he32 hebit hecnt hed hke kcK hgx ht hgKl hot
          go_upto_region 9 with fail
          have l3 : ∀ W, S9 x z1 z5 gK c A1 c1 c2 t ot W → W.cell? ⟨z1, 3, none⟩ = some (.int .u64 (x.g : Nat)) := fun W h => h.wy.at rfl
          have l50 : ∀ W, S9 x z1 z5 gK c A1 c1 c2 t ot W → W.cell? ⟨z5, 0, none⟩ = some (.int .u32 c.owner) := fun W h => h.cc.c0
          have l51 : ∀ W, S9 x z1 z5 gK c A1 c1 c2 t ot W → W.cell? ⟨z5, 1, none⟩ = some (.int .u32 c.a) := fun W h => h.cc.c1
          have l52 : ∀ W, S9 x z1 z5 gK c A1 c1 c2 t ot W → W.cell? ⟨z5, 2, none⟩ = some (.int .u32 c.b) := fun W h => h.cc.c2
          have l53 : ∀ W, S9 x z1 z5 gK c A1 c1 c2 t ot W → W.cell? ⟨z5, 3, none⟩ = some (.slice A1 c.vals.length c1) := fun W h => h.cc.c3
          have l54 : ∀ W, S9 x z1 z5 gK c A1 c1 c2 t ot W → W.cell? ⟨z5, 4, none⟩ = some (.slice (some ⟨gK, 0, none⟩) c.kids.length c2) := fun W h => h.cc.c4
          have lk : ∀ W, S9 x z1 z5 gK c A1 c1 c2 t ot W → W.cell? ⟨gK, t, none⟩ = some (.int .i64 (ot : Nat)) := fun W h => h.kc
          clear m0 m1 m2 m3 m4 m5 m6 m7 m8 m9 d0 d1 d2 d3 d4 f0 f1 f2 f3 f4
          go_cut [7] from 54 to 62 (fun s7 wd => ∃ z7, s7 = .pointer (some ⟨z7, 0, none⟩) ∧ C1 wd z7 3 (.int .i64 (ot : Nat)) ∧ Below wc.heap.size wc wd ∧ wc.heap.size ≤ z7)
          case first =>
            refine wp_region_noPanic ?_
            refine wp_region_held_drew (S := fun W => S9 x z1 z5 gK c A1 c1 c2 t ot W) (by kernel_rfl) (s0.below (Below.refl _ wc).drew) (fun hH => ?_)
            have s1 := s0.below (Below.refl _ wc).drew
            have bl1 : Below wc.heap.size wc wc.drew := (Below.refl _ wc).drew
            clear s0
            generalize wc.drew = W1 at s1 bl1 hH ⊢
            refine tkH ?_ 0 hH ?_ ?_; rotate_left
            · intro W' hS; go_simp; with_reducible rfl
            simp only [tkr]
            refine tkH ?_ 1 hH ?_ ?_; rotate_left
            · intro W' hS; go_simp; with_reducible rfl
            simp only [tkr]
            refine tkH ?_ 2 hH ?_ ?_; rotate_left
            · intro W' hS; go_simp; with_reducible rfl
            simp only [tkr]
            refine tkH ?_ 3 hH ?_ ?_; rotate_left
            · intro W' hS; go_simp; with_reducible rfl
            simp only [tkr]
            refine tkH ?_ 4 hH ?_ ?_; rotate_left
            · intro W' hS; go_simp; with_reducible rfl
            simp only [tkr]
            refine wpAnyH_ready (rs := [5, 9]) (by kernel_rfl) (by simp) ?_
            refine AllReadyH.cons rfl (fun K hK => ?_) (AllReadyH.cons rfl (fun K hK => ?_) AllReadyH.nil)
            · go_simp
              refine (HSD.out W1).mono ?_
              rintro e W2 ⟨rfl, hb2⟩
              have bl2 := bl1.trans (hb2.mono bl1.size)
              have s2 := s1.below hb2
              clear hb2
              simp only
              refine hK.out _ _ ?_ (fun hH => ?_)
              · exact s2
              clear hK K
              refine tkH ?_ 6 hH ?_ ?_; rotate_left
              · intro W' hS; go_simp; with_reducible rfl
              simp only [tkr]
              refine tkH ?_ 7 hH ?_ ?_; rotate_left
              · intro W' hS; go_simp; with_reducible rfl
              simp only [tkr]
              refine tkH ?_ 8 hH ?_ ?_; rotate_left
              · intro W' hS; go_simp; with_reducible rfl
              simp only [tkr]
              refine rdH 9 rfl (fun K hK => ?_)
              go_simp
              have q7 := C1.new W2 3 (.int .i64 0)
              have hb3 : Below W2.heap.size W2 (W2.alloc (.cells #[.int .i64 0] 3)) := (Below.refl _ W2).alloc (Nat.le_refl _) _
              have bl3 := bl2.trans (hb3.mono bl2.size)
              have s3 := s2.below hb3
              have hz7 := bl2.size
              refine hK.out _ _ ?_ (fun hH => ?_)
              · exact s3
              clear hK K hb3
              generalize W2.alloc (.cells #[.int .i64 0] 3) = W3 at q7 bl3 s3 hH ⊢
              generalize W2.heap.size = z7 at q7 hz7 ⊢
              refine rdH 10 rfl (fun K hK => ?_)
              obtain ⟨d0, f0⟩ := q7.all
              go_simp
              clear d0 f0
              have hP := q7.set (.int .i64 (ot : Nat))
              have hk7 : Kp (fun q => q = z7) W3 (W3.setCell ⟨z7, 0, none⟩ (.int .i64 (ot : Nat))) := Kp.one W3 z7 0 _
              have bl9 := below_kp bl3 hk7 (fun q e => by rw [e]; exact hz7)
              have s9 := s3.kp hk7 (fun e => by have := HLT9.out; omega)
              generalize W3.setCell ⟨z7, 0, none⟩ (.int .i64 (ot : Nat)) = W9 at hP bl9 s9 ⊢
              refine hK.out _ _ ?_ (fun hH => ?_)
              · exact s9
              clear hK K hk7
              refine wpAnyH_done (by kernel_rfl) ?_ _
              refine NoPanic.normal ?_
              clear l3 l50 l51 l52 l53 l54 lk hH
              have HE := Lib.hid (And.intro hP (And.intro bl9 hz7))
              clear hP bl9 s9 q7
              go_wp2_with fail
              go_meet
              exact ⟨z7, rfl, HE.out⟩
            · go_simp
              have q7 := C1.new W1 3 (.int .i64 0)
              have hb2 : Below W1.heap.size W1 (W1.alloc (.cells #[.int .i64 0] 3)) := (Below.refl _ W1).alloc (Nat.le_refl _) _
              have bl2 := bl1.trans (hb2.mono bl1.size)
              have s2 := s1.below hb2
              have hz7 := bl1.size
              refine hK.out _ _ ?_ (fun hH => ?_)
              · exact s2
              clear hK K hb2
              generalize W1.alloc (.cells #[.int .i64 0] 3) = W2 at q7 bl2 s2 hH ⊢
              generalize W1.heap.size = z7 at q7 hz7 ⊢
              refine rdH 5 rfl (fun K hK => ?_)
              go_simp
              refine (HSD.out W2).mono ?_
              rintro e W3 ⟨rfl, hb3⟩
              have bl3 := bl2.trans (hb3.mono bl2.size)
              have s3 := s2.below hb3
              replace q7 := q7.below hb3
              clear hb3
              simp only
              refine hK.out _ _ ?_ (fun hH => ?_)
              · exact s3
              clear hK K
              refine tkH ?_ 6 hH ?_ ?_; rotate_left
              · intro W' hS; go_simp; with_reducible rfl
              simp only [tkr]
              refine tkH ?_ 7 hH ?_ ?_; rotate_left
              · intro W' hS; go_simp; with_reducible rfl
              simp only [tkr]
              refine tkH ?_ 8 hH ?_ ?_; rotate_left
              · intro W' hS; go_simp; with_reducible rfl
              simp only [tkr]
              refine rdH 10 rfl (fun K hK => ?_)
              obtain ⟨d0, f0⟩ := q7.all
              go_simp
              clear d0 f0
              have hP := q7.set (.int .i64 (ot : Nat))
              have hk7 : Kp (fun q => q = z7) W3 (W3.setCell ⟨z7, 0, none⟩ (.int .i64 (ot : Nat))) := Kp.one W3 z7 0 _
              have bl9 := below_kp bl3 hk7 (fun q e => by rw [e]; exact hz7)
              have s9 := s3.kp hk7 (fun e => by have := HLT9.out; omega)
              generalize W3.setCell ⟨z7, 0, none⟩ (.int .i64 (ot : Nat)) = W9 at hP bl9 s9 ⊢
              refine hK.out _ _ ?_ (fun hH => ?_)
              · exact s9
              clear hK K hk7
              refine wpAnyH_done (by kernel_rfl) ?_ _
              refine NoPanic.normal ?_
              clear l3 l50 l51 l52 l53 l54 lk hH
              have HE := Lib.hid (And.intro hP (And.intro bl9 hz7))
              clear hP bl9 s9 q7
              go_wp2_with fail
              go_meet
              exact ⟨z7, rfl, HE.out⟩
          case rest =>
            obtain ⟨z7, rfl, q7, bl9, hz7⟩ := hcut
            have q1 := HX.out.2.2.2.2.below bl9
            obtain ⟨m0, m1, m2, m3, m4, m5, m6, m7, m8, m9⟩ := q1.all
            have bl99 := HX.out.2.2.1.trans (bl9.mono HX.out.2.2.1.size)
            have HBW := Lib.hid (HB0.out.trans (bl99.mono HB0.out.size))
            have nF7 : ¬ F z7 := fun hf => by
              have e1 := HFL.out z7 hf
              have e2 := HB0.out.size
              have e3 := HX.out.2.2.1.size
              omega
            have H7 := Lib.hid (And.intro q7 (And.intro bl99 (And.intro nF7 q1)))
            clear q7 bl9 hz7 q1 bl99 nF7 s0
            go_wp2_with fail
            obtain ⟨hAr, hm, hg, hb, hP, hW, hk⟩ := HA.out
            obtain ⟨o4, hn4, hat, hlf, hcl14, hlast, hl1⟩ := HRW.out
            obtain ⟨hcl, hwp, hwy, hN, hT, hbit, hsx, hLd, hb13, hKd, hlp⟩ := HC.out
            have o4' := (Kp.of_below H7.out.2.1 (fun _ => False)).own o4 (fun _ _ h => h)
            rw [hcl] at o4' hn4 hcl14
            have HB16 := Lib.hid (show freshN M x.ow (pre.map Prod.fst) + 0 ≤ 16 by
              have := HFR.out (pre.map Prod.fst)
              simp only [List.length_append, List.length_map, List.length_cons, List.length_nil] at this hcl14
              omega)
            have hone : ∀ q ∈ L (dg (hs k) b), q.1 = k := fun q hq => by
              rw [hLd] at hq
              obtain ⟨v, e⟩ := one_of hk h2
              rw [e, List.mem_singleton] at hq
              rw [hq]
            refine (vtake_fold x z1 z7 ot j lvj b pre y lj P _ (hAr.below H7.out.2.1) hm hg hb hP hwp hN hT hbit hone HF9.out.1 HF9.out.2.1 HF9.out.2.2 HOT.out (by simp at hcl14; omega) o4' hn4 H7.out.2.2.2 H7.out.1 ⟨hz1n, H7.out.2.2.1⟩).mono ?_
            clear hAr hm hg hb hP hW hk o4 hn4 hat hlf hcl14 hlast hl1 hcl hwp hwy hN hT hbit hsx hLd hb13 hKd hlp o4' hone
            rintro e W9 (⟨rfl, hr, hb9⟩ | ⟨n, M', rfl, n1, hr, hs9⟩)
            · have hE := Lib.hid (And.intro (show most < live (most + 1) M + 16 by have := HB16.out; omega) (HBW.out.trans (hb9.mono HBW.out.size)))
              clear hr hb9
              go_wp2_with fail
              exact bodyPost_ret (v := .tuple #[.int .i64 0, .int .i64 5]) (by simp [results, Tryz.results94, go_sem]) rfl (.inl ⟨rfl, hE.out⟩)
            · have hE := Lib.hid (And.intro ((hr.le HB16.out).take HSR.out) (Stp.from HFL.out HBW.out hs9))
              clear hr hs9 n1
              go_wp2_with fail
              exact bodyPost_ret (v := .tuple #[.int .i64 (n : Nat), .int .i64 0]) (by simp [results, Tryz.results94, go_sem]) rfl (.inr ⟨n, M', rfl, hE.out⟩)
end
end Go.Proofs.YthcpjehkjhpjfaaGreat

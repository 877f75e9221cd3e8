/- Several texts in one. -/
import Derived.Test.YthcpjehkjhpjfaaGreatMh28
import Derived.Test.YthcpjehkjhpjfaaGreatMh31
import Derived.IntWalk
import Derived.Deep.CutRange
import Derived.Deep.CutBlock
import Derived.Test.YthcpjehkjhpjfaaGreatMh11
set_option linter.unusedSimpArgs false
namespace Go.Proofs.YthcpjehkjhpjfaaGreat
set_option maxRecDepth 100000
set_option linter.unusedSimpArgs false
set_option linter.unusedVariables false
open Go.RowKit
structure TB (W : World) (n0 n1 z6 z9 : Nat) (k : Ky) (e : En) : Prop where
  kb : C3 W z6 43 (.int .u8 k.1) (.int .i64 k.2.1) (.string k.2.2)
  ob : C4 W z9 37 (.int .i64 (e.l.length : Int)) (.int .i64 (e.root : Int)) e.s (.int .u32 e.ow)
  zs : n0 ≤ z6 ∧ n0 ≤ z9 ∧ z6 < n1 ∧ z9 < n1 ∧ n1 ≤ W.heap.size
theorem TB.kp {W W' : World} {n0 n1 z6 z9 : Nat} {k : Ky} {e : En} {G : Nat → Prop} (h : TB W n0 n1 z6 z9 k e) (hk : Kp G W W') (hG : ∀ q, n0 ≤ q → q < n1 → ¬ G q) : TB W' n0 n1 z6 z9 k e := by
  obtain ⟨s1, s3, s4, s6, s7⟩ := h.zs
  have := hk.size
  exact ⟨h.kb.kp hk (hG _ s1 s4), h.ob.kp hk (hG _ s3 s6), ⟨s1, s3, s4, s6, by omega⟩⟩
theorem TB.below {W W' : World} {n0 n1 z6 z9 : Nat} {k : Ky} {e : En} (h : TB W n0 n1 z6 z9 k e) (hb : Below W.heap.size W W') : TB W' n0 n1 z6 z9 k e :=
  h.kp (Kp.of_below hb (fun _ => False)) (fun _ _ _ h => h)
theorem take_aft {w0 W Wc : World} {b bh seed zw g cp n1 : Nat} {hs : Ky → Nat} {M : Cells} {F : Nat → Prop} {last : Int} {E : List En} (h : Wd w0 W b bh seed zw hs M F (.slice (some ⟨g, 0, none⟩) E.length cp) last E) (hhs : ∀ q, OkK q → hs q = hashN seed q.1 q.2.1 q.2.2) (i : Nat) (e : En) (he : E[i]? = some e) (k : Ky) (hk : OkK k) (hlv : live (65536 + 1) M + 16 ≤ 65536) (hE : E.length ≤ 1000) (hb : Below W.heap.size W Wc) (hn : W.heap.size ≤ n1 ∧ n1 ≤ Wc.heap.size) (zz : List Nat) (hzz : ∀ z ∈ zz, W.heap.size ≤ z ∧ z < Wc.heap.size) :
    Calls Tryz.prog 24 #[land b bh, .agg #[.int .i64 (e.l.length : Int), .int .i64 (e.root : Int)], xagg k, .int .u32 e.ow] Wc fun x W' => ∃ m n er : Int, x = .returned (.tuple #[.agg #[.int .i64 m, .int .i64 n], .int .i64 er]) ∧ AftQ W b bh seed hs M F n1 (out1 (fun j => (holds (E.eraseIdx i)).count j) e.root e.ow) (hasB k e.l = false) 4 (takeL k e.l) zz m n er W' ∧ Kp (fun q => F q ∨ q = bh) Wc W' := by
  have hm := List.mem_of_getElem? he
  have hbl := h.hh.lt
  have hsz := hb.size
  have hFl : ∀ q, F q → q < W.heap.size := fun q hq => h.ar.lt hq
  refine (vTake b bh seed e.root k e.ow _ Wc (h.ar.below hb) (by decide) (h.lend he) (fun j => Nat.le_trans (holds_bound hE j) (by decide)) (h.mp e hm) (h.hh.below hb) h.nb hhs hk (h.len e hm)).mono ?_
  rintro x W' (⟨rfl, h1, h3, h4⟩ | ⟨_, h1, _⟩ | ⟨n, M', rfl, h1, hr, hs2⟩)
  · exact ⟨0, 0, 4, rfl, .inl ⟨rfl, rfl, rfl, h1, (Kp.of_below hb _).trans h3 (fun q e => .inl e), h4⟩, h3.mono (fun q e _ => .inr e)⟩
  · omega
  · refine ⟨_, _, 0, rfl, .inr ⟨rfl, fun hno => (by rw [hno] at h1; cases h1), n, M', Fn F Wc W', rfl, rfl, ?_, fun z hz hf => ?_⟩, hs2.kp⟩
    · exact ⟨hs2.ar, hs2.hh, (Kp.of_below hb _).trans hs2.kp (fun q e => .inl e), hr.bk, hr.keeps, hr.live, hr.mp, fun q hq => hq.elim .inl (fun e => .inr (Nat.le_trans hn.2 e.1)), ⟨hn.1, Nat.le_trans hn.2 hs2.kp.size⟩, fun hq => hq.elim h.nb (fun e => by omega)⟩
    · have := hzz z hz
      rcases hf with hf | hf
      · have := hFl z hf; omega
      · omega
section
set_option maxHeartbeats 8000000 in
theorem ltake8 {w0 W : World} {b bh seed zw g cp : Nat} {hs : Ky → Nat} {M : Cells} {F : Nat → Prop} {last : Int} {E : List En} (h : Wd w0 W b bh seed zw hs M F (.slice (some ⟨g, 0, none⟩) E.length cp) last E) (hhs : ∀ q, OkK q → hs q = hashN seed q.1 q.2.1 q.2.2) (i : Nat) (e : En) (he : E[i]? = some e) (k : Ky) (hk : OkK k) (hlv : live (65536 + 1) M + 16 ≤ 65536) (hE : E.length ≤ 1000) :
    Calls Tryz.prog 80 #[.pointer (some ⟨zw, 0, none⟩), .int .i64 (i : Int), xagg k] W fun x W' => x = .returned (.bool true) ∧ ∃ M' F' E', Chd8 w0 W W' b bh seed zw hs M F g cp last E M' F' E' := by
  have HWD := Lib.hid h
  have HHS := Lib.hid hhs
  have HE := Lib.hid (And.intro he (And.intro hk (And.intro hlv hE)))
  have hzl := h.wb.lt
  have x0 := h.wb.c0
  have x3 := h.wb.c3
  obtain ⟨a0, a1, a2, a3, f0, f1, f2, f3⟩ := row4 h.all he
  have hgl : g < W.heap.size := (own_blk h.all g rfl).2
  have hil : i < E.length := (List.getElem?_eq_some_iff.1 he).1
  have hi1 : (0 : Int) ≤ (i : Int) := by omega
  have hi2 : (i : Int) < (E.length : Int) := by omega
  obtain ⟨As, cs, hes, _⟩ := (Rd.of_own (h.row e (List.mem_of_getElem? he))).form
  have HES := Lib.hid hes
  have HM := Lib.hid (List.mem_of_getElem? he)
  have pb0 : TB ((W.alloc (.cells #[.int .u8 k.1, .int .i64 k.2.1, .string k.2.2] 43)).alloc (.cells #[.int .i64 (e.l.length : Int), .int .i64 (e.root : Int), e.s, .int .u32 e.ow] 37)) W.heap.size (W.heap.size + 1 + 1) W.heap.size (W.heap.size + 1) k e := by
    refine ⟨(C3.new W _ _ _ _).alloc _, ?_, by simp; omega⟩
    have h := C4.new (W.alloc (.cells #[.int .u8 k.1, .int .i64 k.2.1, .string k.2.2] 43)) 37 (.int .i64 (e.l.length : Int)) (.int .i64 (e.root : Int)) e.s (.int .u32 e.ow)
    simpa using h
  have hb0 : Below W.heap.size W ((W.alloc (.cells #[.int .u8 k.1, .int .i64 k.2.1, .string k.2.2] 43)).alloc (.cells #[.int .i64 (e.l.length : Int), .int .i64 (e.root : Int), e.s, .int .u32 e.ow] 37)) := ((Below.refl _ W).alloc (Nat.le_refl _) _).alloc (by simp) _
  rw [hes] at a2
  clear h hhs he hk hlv hE f0 f1 f2 f3 hes
  go_enter Tryz.func80, Tryz.ntmps80
  go_upto_region 2 with fail
  rw [← HES.out]
  generalize ((W.alloc (.cells #[.int .u8 k.1, .int .i64 k.2.1, .string k.2.2] 43)).alloc (.cells #[.int .i64 (e.l.length : Int), .int .i64 (e.root : Int), e.s, .int .u32 e.ow] 37)) = W1 at pb0 hb0 ⊢
  obtain ⟨n1, hn1⟩ : ∃ n, n = W.heap.size + 1 + 1 := ⟨_, rfl⟩
  obtain ⟨z9, hz9⟩ : ∃ n, n = W.heap.size + 1 := ⟨_, rfl⟩
  obtain ⟨z6, hz6⟩ : ∃ n, n = W.heap.size := ⟨_, rfl⟩
  have pb1 : TB W1 W.heap.size n1 z6 z9 k e := by rw [hn1, hz9, hz6]; exact pb0
  rw [← hz9, ← hz6]
  have HN1 := Lib.hid (show W.heap.size ≤ n1 by omega)
  have HHR := Lib.hid (And.intro HWD.out.hh.lt (And.intro (show ∀ q, F q → q < W.heap.size from fun q hq => HWD.out.ar.lt hq) hgl))
  clear hn1 hz9 hz6 pb0 a0 a1 a2 a3 x3
  have x0 := (HWD.out.wb.below hb0).c0
  have B1 := Lib.hid hb0
  have P1 := Lib.hid pb1
  have HRW := Lib.hid (show ∀ W', Below W.heap.size W W' → W'.ownsRow w0.heap.size 78 6 (.slice As e.l.length cs) e.l.length (e.l.flatMap pcells) from fun W' h => by rw [← HES.out]; exact (Kp.of_below h (fun _ => False)).own (HWD.out.row e HM.out) (fun _ _ h => h))
  clear hb0 pb1 hgl
  go_wp2_with fail
  refine (alive b 65536 M F W1 (HWD.out.ar.below B1.out)).mono ?_
  rintro x W1x ⟨rfl, rfl⟩
  clear x0
  go_upto_region 3 with fail
  go_cut [9, 10] from 26 to 33 (fun s11 s12 wd => ∃ zx, s11 = .pointer (some ⟨zx, 0, none⟩) ∧ s12 = .bool (hasB k e.l) ∧ Below W1.heap.size W1 wd)
  case first =>
    have l2 : ∀ W', Below W1.heap.size W1 W' → W'.cell? ⟨z9, 2, none⟩ = some (.slice As e.l.length cs) := fun W' h => by rw [← HES.out]; exact (P1.out.below h).ob.c2
    have k0 : ∀ W', Below W1.heap.size W1 W' → W'.cell? ⟨z6, 0, none⟩ = some (.int .u8 k.1) := fun W' h => (P1.out.below h).kb.c0
    have k1 : ∀ W', Below W1.heap.size W1 W' → W'.cell? ⟨z6, 1, none⟩ = some (.int .i64 k.2.1) := fun W' h => (P1.out.below h).kb.c1
    have k2 : ∀ W', Below W1.heap.size W1 W' → W'.cell? ⟨z6, 2, none⟩ = some (.string k.2.2) := fun W' h => (P1.out.below h).kb.c2
    refine wp_region_noPanic ?_
    have st : Below W1.heap.size W1 W1.drew := (Below.refl _ W1).drew
    refine wp_region_held_drew (S := fun W' => Below W1.heap.size W1 W') (by kernel_rfl) st (fun hH => ?_)
    generalize W1.drew = Wc at st hH ⊢
    refine tkH ?_ 0 hH ?_ ?_; rotate_left
    · intro W' hS; go_simp; with_reducible rfl
    simp only [tkr]
    refine tkH ?_ 1 hH ?_ ?_; rotate_left
    · intro W' hS; go_simp; with_reducible rfl
    simp only [tkr]
    refine tkH ?_ 2 hH ?_ ?_; rotate_left
    · intro W' hS; go_simp; with_reducible rfl
    simp only [tkr]
    refine wpAnyH_ready (rs := [3, 8]) (by kernel_rfl) (by simp) ?_
    refine AllReadyH.cons rfl (fun K hK => ?_) (AllReadyH.cons rfl (fun K hK => ?_) (AllReadyH.nil))
    · go_simp
      refine (lof8 k Wc).mono ?_
      rintro x Wc ⟨rfl, hb9⟩
      replace st := st.trans (hb9.mono st.size)
      try replace bx := bx.below hb9
      clear hb9
      simp only
      refine hK.out _ _ ?_ (fun hH => ?_)
      · exact st
      clear hK K
      refine wpAnyH_ready (rs := [4, 8]) (by kernel_rfl) (by simp) ?_
      refine AllReadyH.cons rfl (fun K hK => ?_) (AllReadyH.cons rfl (fun K hK => ?_) (AllReadyH.nil))
      · go_simp
        refine (rlook w0.heap.size (.slice As e.l.length cs) k e.l Wc (by have := HWD.out.len e HM.out; omega) (HRW.out _ (B1.out.trans (st.mono B1.out.size)))).mono ?_
        rintro x Wc ⟨rfl, hb9⟩
        replace st := st.trans (hb9.mono st.size)
        try replace bx := bx.below hb9
        clear hb9
        simp only
        refine hK.out _ _ ?_ (fun hH => ?_)
        · exact st
        clear hK K
        refine tkH ?_ 5 hH ?_ ?_; rotate_left
        · intro W' hS; go_simp; with_reducible rfl
        simp only [tkr]
        refine tkH ?_ 6 hH ?_ ?_; rotate_left
        · intro W' hS; go_simp; with_reducible rfl
        simp only [tkr]
        refine tkH ?_ 7 hH ?_ ?_; rotate_left
        · intro W' hS; go_simp; with_reducible rfl
        simp only [tkr]
        refine rdH 8 rfl (fun K hK => ?_)
        go_simp
        have bx := C3.new Wc 74 (.int .u8 0) (.int .i64 0) (.string ⟨#[]⟩)
        have bz : W1.heap.size ≤ Wc.heap.size := st.size
        replace st := st.alloc st.size (.cells #[.int .u8 0, .int .i64 0, .string ⟨#[]⟩] 74)
        refine hK.out _ _ ?_ (fun hH => ?_)
        · exact st
        clear hK K
        generalize World.alloc _ _ = Wn at st bx hH ⊢
        generalize Wc.heap.size = zx at bx bz ⊢
        rename World => Wc
        refine rdH 9 rfl (fun K hK => ?_)
        obtain ⟨a0, a1, a2, g0, g1, g2⟩ := bx.all
        go_simp
        clear a0 a1 a2 g0 g1 g2
        replace st := ((st.setCell (p := ⟨zx, 0, none⟩) bz (.int .u8 (lookV k e.l).1)).setCell (p := ⟨zx, 1, none⟩) bz (.int .i64 (lookV k e.l).2.1)).setCell (p := ⟨zx, 2, none⟩) bz (.string (lookV k e.l).2.2)
        refine hK.out _ _ ?_ (fun hH => ?_)
        · exact st
        clear hK K
        refine tkH ?_ 10 hH ?_ ?_; rotate_left
        · intro W' hS; go_simp; with_reducible rfl
        simp only [tkr]
        refine wpAnyH_done (by kernel_rfl) ?_ _
        refine NoPanic.normal ?_
        clear l2 k0 k1 k2
        go_wp2_with fail
        go_meet
        exact ⟨zx, rfl, rfl, st⟩
      · go_simp
        have bx := C3.new Wc 74 (.int .u8 0) (.int .i64 0) (.string ⟨#[]⟩)
        have bz : W1.heap.size ≤ Wc.heap.size := st.size
        replace st := st.alloc st.size (.cells #[.int .u8 0, .int .i64 0, .string ⟨#[]⟩] 74)
        refine hK.out _ _ ?_ (fun hH => ?_)
        · exact st
        clear hK K
        generalize World.alloc _ _ = Wn at st bx hH ⊢
        generalize Wc.heap.size = zx at bx bz ⊢
        rename World => Wc
        refine rdH 4 rfl (fun K hK => ?_)
        go_simp
        refine (rlook w0.heap.size (.slice As e.l.length cs) k e.l Wc (by have := HWD.out.len e HM.out; omega) (HRW.out _ (B1.out.trans (st.mono B1.out.size)))).mono ?_
        rintro x Wc ⟨rfl, hb9⟩
        replace st := st.trans (hb9.mono st.size)
        try replace bx := bx.below hb9
        clear hb9
        simp only
        refine hK.out _ _ ?_ (fun hH => ?_)
        · exact st
        clear hK K
        refine tkH ?_ 5 hH ?_ ?_; rotate_left
        · intro W' hS; go_simp; with_reducible rfl
        simp only [tkr]
        refine tkH ?_ 6 hH ?_ ?_; rotate_left
        · intro W' hS; go_simp; with_reducible rfl
        simp only [tkr]
        refine tkH ?_ 7 hH ?_ ?_; rotate_left
        · intro W' hS; go_simp; with_reducible rfl
        simp only [tkr]
        refine rdH 9 rfl (fun K hK => ?_)
        obtain ⟨a0, a1, a2, g0, g1, g2⟩ := bx.all
        go_simp
        clear a0 a1 a2 g0 g1 g2
        replace st := ((st.setCell (p := ⟨zx, 0, none⟩) bz (.int .u8 (lookV k e.l).1)).setCell (p := ⟨zx, 1, none⟩) bz (.int .i64 (lookV k e.l).2.1)).setCell (p := ⟨zx, 2, none⟩) bz (.string (lookV k e.l).2.2)
        refine hK.out _ _ ?_ (fun hH => ?_)
        · exact st
        clear hK K
        refine tkH ?_ 10 hH ?_ ?_; rotate_left
        · intro W' hS; go_simp; with_reducible rfl
        simp only [tkr]
        refine wpAnyH_done (by kernel_rfl) ?_ _
        refine NoPanic.normal ?_
        clear l2 k0 k1 k2
        go_wp2_with fail
        go_meet
        exact ⟨zx, rfl, rfl, st⟩
    · go_simp
      have bx := C3.new Wc 74 (.int .u8 0) (.int .i64 0) (.string ⟨#[]⟩)
      have bz : W1.heap.size ≤ Wc.heap.size := st.size
      replace st := st.alloc st.size (.cells #[.int .u8 0, .int .i64 0, .string ⟨#[]⟩] 74)
      refine hK.out _ _ ?_ (fun hH => ?_)
      · exact st
      clear hK K
      generalize World.alloc _ _ = Wn at st bx hH ⊢
      generalize Wc.heap.size = zx at bx bz ⊢
      rename World => Wc
      refine rdH 3 rfl (fun K hK => ?_)
      go_simp
      refine (lof8 k Wc).mono ?_
      rintro x Wc ⟨rfl, hb9⟩
      replace st := st.trans (hb9.mono st.size)
      try replace bx := bx.below hb9
      clear hb9
      simp only
      refine hK.out _ _ ?_ (fun hH => ?_)
      · exact st
      clear hK K
      refine rdH 4 rfl (fun K hK => ?_)
      go_simp
      refine (rlook w0.heap.size (.slice As e.l.length cs) k e.l Wc (by have := HWD.out.len e HM.out; omega) (HRW.out _ (B1.out.trans (st.mono B1.out.size)))).mono ?_
      rintro x Wc ⟨rfl, hb9⟩
      replace st := st.trans (hb9.mono st.size)
      try replace bx := bx.below hb9
      clear hb9
      simp only
      refine hK.out _ _ ?_ (fun hH => ?_)
      · exact st
      clear hK K
      refine tkH ?_ 5 hH ?_ ?_; rotate_left
      · intro W' hS; go_simp; with_reducible rfl
      simp only [tkr]
      refine tkH ?_ 6 hH ?_ ?_; rotate_left
      · intro W' hS; go_simp; with_reducible rfl
      simp only [tkr]
      refine tkH ?_ 7 hH ?_ ?_; rotate_left
      · intro W' hS; go_simp; with_reducible rfl
      simp only [tkr]
      refine rdH 9 rfl (fun K hK => ?_)
      obtain ⟨a0, a1, a2, g0, g1, g2⟩ := bx.all
      go_simp
      clear a0 a1 a2 g0 g1 g2
      replace st := ((st.setCell (p := ⟨zx, 0, none⟩) bz (.int .u8 (lookV k e.l).1)).setCell (p := ⟨zx, 1, none⟩) bz (.int .i64 (lookV k e.l).2.1)).setCell (p := ⟨zx, 2, none⟩) bz (.string (lookV k e.l).2.2)
      refine hK.out _ _ ?_ (fun hH => ?_)
      · exact st
      clear hK K
      refine tkH ?_ 10 hH ?_ ?_; rotate_left
      · intro W' hS; go_simp; with_reducible rfl
      simp only [tkr]
      refine wpAnyH_done (by kernel_rfl) ?_ _
      refine NoPanic.normal ?_
      clear l2 k0 k1 k2
      go_wp2_with fail
      go_meet
      exact ⟨zx, rfl, rfl, st⟩
  case rest =>
    obtain ⟨zx, rfl, rfl, hb2⟩ := hcut
    have B2 := Lib.hid (B1.out.trans (hb2.mono B1.out.size))
    have P2 := Lib.hid (P1.out.below hb2)
    clear hb2 B1 P1
    obtain ⟨zy, hzy⟩ : ∃ z, z = zx := ⟨_, rfl⟩
    rw [← hzy]
    clear hzy
    have HPUT := Lib.hid (fun (Wc : World) (h1 : Below W.heap.size W Wc) (h2 : n1 ≤ Wc.heap.size) (zz : List Nat) (h3 : ∀ z ∈ zz, W.heap.size ≤ z ∧ z < Wc.heap.size) => take_aft HWD.out HHS.out i e HE.out.1 k HE.out.2.1 HE.out.2.2.1 HE.out.2.2.2 h1 (And.intro HN1.out h2) zz h3)
    clear zx
    go_upto_region 4 with fail
    go_cut [11, 12] from 34 to 46 (fun s13 s14 wd => ∃ (z : Nat) (m n er : Int), s13 = .pointer (some ⟨z, 0, none⟩) ∧ s14 = .int .i64 er ∧ C2 wd z 33 (.int .i64 m) (.int .i64 n) ∧ W.heap.size ≤ z ∧ AftQ W b bh seed hs M F n1 (out1 (fun j => (holds (E.eraseIdx i)).count j) e.root e.ow) (hasB k e.l = false) 4 (takeL k e.l) [z] m n er wd ∧ (TB wd W.heap.size n1 z6 z9 k e ∧ C5 wd zw 40 (ap b) (.pointer (some ⟨bh, 0, none⟩)) (.int .u64 (seed : Nat)) (.slice (some ⟨g, 0, none⟩) E.length cp) (.int .u32 last)))
    case first =>
      have l0 : ∀ W', (TB W' W.heap.size n1 z6 z9 k e ∧ C5 W' zw 40 (ap b) (.pointer (some ⟨bh, 0, none⟩)) (.int .u64 (seed : Nat)) (.slice (some ⟨g, 0, none⟩) E.length cp) (.int .u32 last)) → W'.cell? ⟨zw, 0, none⟩ = some (ap b) := fun W' h => h.2.c0
      have l1 : ∀ W', (TB W' W.heap.size n1 z6 z9 k e ∧ C5 W' zw 40 (ap b) (.pointer (some ⟨bh, 0, none⟩)) (.int .u64 (seed : Nat)) (.slice (some ⟨g, 0, none⟩) E.length cp) (.int .u32 last)) → W'.cell? ⟨zw, 1, none⟩ = some (.pointer (some ⟨bh, 0, none⟩)) := fun W' h => h.2.c1
      have o0 : ∀ W', (TB W' W.heap.size n1 z6 z9 k e ∧ C5 W' zw 40 (ap b) (.pointer (some ⟨bh, 0, none⟩)) (.int .u64 (seed : Nat)) (.slice (some ⟨g, 0, none⟩) E.length cp) (.int .u32 last)) → W'.cell? ⟨z9, 0, none⟩ = some (.int .i64 (e.l.length : Int)) := fun W' h => h.1.ob.c0
      have o1 : ∀ W', (TB W' W.heap.size n1 z6 z9 k e ∧ C5 W' zw 40 (ap b) (.pointer (some ⟨bh, 0, none⟩)) (.int .u64 (seed : Nat)) (.slice (some ⟨g, 0, none⟩) E.length cp) (.int .u32 last)) → W'.cell? ⟨z9, 1, none⟩ = some (.int .i64 (e.root : Int)) := fun W' h => h.1.ob.c1
      have o3 : ∀ W', (TB W' W.heap.size n1 z6 z9 k e ∧ C5 W' zw 40 (ap b) (.pointer (some ⟨bh, 0, none⟩)) (.int .u64 (seed : Nat)) (.slice (some ⟨g, 0, none⟩) E.length cp) (.int .u32 last)) → W'.cell? ⟨z9, 3, none⟩ = some (.int .u32 e.ow) := fun W' h => h.1.ob.c3
      have k0 : ∀ W', (TB W' W.heap.size n1 z6 z9 k e ∧ C5 W' zw 40 (ap b) (.pointer (some ⟨bh, 0, none⟩)) (.int .u64 (seed : Nat)) (.slice (some ⟨g, 0, none⟩) E.length cp) (.int .u32 last)) → W'.cell? ⟨z6, 0, none⟩ = some (.int .u8 k.1) := fun W' h => h.1.kb.c0
      have k1 : ∀ W', (TB W' W.heap.size n1 z6 z9 k e ∧ C5 W' zw 40 (ap b) (.pointer (some ⟨bh, 0, none⟩)) (.int .u64 (seed : Nat)) (.slice (some ⟨g, 0, none⟩) E.length cp) (.int .u32 last)) → W'.cell? ⟨z6, 1, none⟩ = some (.int .i64 k.2.1) := fun W' h => h.1.kb.c1
      have k2 : ∀ W', (TB W' W.heap.size n1 z6 z9 k e ∧ C5 W' zw 40 (ap b) (.pointer (some ⟨bh, 0, none⟩)) (.int .u64 (seed : Nat)) (.slice (some ⟨g, 0, none⟩) E.length cp) (.int .u32 last)) → W'.cell? ⟨z6, 2, none⟩ = some (.string k.2.2) := fun W' h => h.1.kb.c2
      refine wp_region_noPanic ?_
      have st : Below W.heap.size W wc.drew := B2.out.trans ((Below.refl _ wc).drew.mono B2.out.size)
      have sp : TB wc.drew W.heap.size n1 z6 z9 k e ∧ C5 wc.drew zw 40 (ap b) (.pointer (some ⟨bh, 0, none⟩)) (.int .u64 (seed : Nat)) (.slice (some ⟨g, 0, none⟩) E.length cp) (.int .u32 last) := ⟨P2.out.below (Below.refl _ wc).drew, HWD.out.wb.below st⟩
      refine wp_region_held_drew (S := fun W' => TB W' W.heap.size n1 z6 z9 k e ∧ C5 W' zw 40 (ap b) (.pointer (some ⟨bh, 0, none⟩)) (.int .u64 (seed : Nat)) (.slice (some ⟨g, 0, none⟩) E.length cp) (.int .u32 last)) (by kernel_rfl) sp (fun hH => ?_)
      generalize wc.drew = Wc at st sp hH ⊢
      refine tkH ?_ 0 hH ?_ ?_; rotate_left
      · intro W' hS; go_simp; with_reducible rfl
      simp only [tkr]
      refine tkH ?_ 1 hH ?_ ?_; rotate_left
      · intro W' hS; go_simp; with_reducible rfl
      simp only [tkr]
      refine tkH ?_ 2 hH ?_ ?_; rotate_left
      · intro W' hS; go_simp; with_reducible rfl
      simp only [tkr]
      refine tkH ?_ 3 hH ?_ ?_; rotate_left
      · intro W' hS; go_simp; with_reducible rfl
      simp only [tkr]
      refine tkH ?_ 4 hH ?_ ?_; rotate_left
      · intro W' hS; go_simp; with_reducible rfl
      simp only [tkr]
      refine tkH ?_ 5 hH ?_ ?_; rotate_left
      · intro W' hS; go_simp; with_reducible rfl
      simp only [tkr]
      refine tkH ?_ 6 hH ?_ ?_; rotate_left
      · intro W' hS; go_simp; with_reducible rfl
      simp only [tkr]
      refine tkH ?_ 7 hH ?_ ?_; rotate_left
      · intro W' hS; go_simp; with_reducible rfl
      simp only [tkr]
      refine tkH ?_ 8 hH ?_ ?_; rotate_left
      · intro W' hS; go_simp; with_reducible rfl
      simp only [tkr]
      refine wpAnyH_ready (rs := [9, 13]) (by kernel_rfl) (by simp) ?_
      refine AllReadyH.cons rfl (fun K hK => ?_) (AllReadyH.cons rfl (fun K hK => ?_) (AllReadyH.nil))
      · go_simp
        have hn9 := sp.1.zs
        first
          | (refine (HPUT.out Wc st (by omega) [z] (fun y hy => by rw [List.mem_singleton] at hy; rw [hy]; exact ⟨bz, bx.lt⟩)).mono ?_)
          | (refine (HPUT.out Wc st (by omega) [] (fun y hy => by simp at hy)).mono ?_)
        rintro x Wc ⟨m, n, er, rfl, af, hk9⟩
        replace sp := And.intro (sp.1.kp hk9 (fun q h1 h2 hq => hq.elim (fun hq => by have := HHR.out.2.1 q hq; omega) (fun hq => by have := HHR.out.1; omega))) (sp.2.kp hk9 (fun hq => hq.elim HWD.out.lo.2.2.2 HWD.out.lo.2.2.1))
        try replace bx := bx.kp hk9 (fun hq => hq.elim (fun hq => by have := HHR.out.2.1 _ hq; omega) (fun hq => by have := HHR.out.1; omega))
        clear hk9 st hn9
        simp only
        refine hK.out _ _ ?_ (fun hH => ?_)
        · exact sp
        clear hK K
        refine tkH ?_ 10 hH ?_ ?_; rotate_left
        · intro W' hS; go_simp; with_reducible rfl
        simp only [tkr]
        refine tkH ?_ 11 hH ?_ ?_; rotate_left
        · intro W' hS; go_simp; with_reducible rfl
        simp only [tkr]
        refine tkH ?_ 12 hH ?_ ?_; rotate_left
        · intro W' hS; go_simp; with_reducible rfl
        simp only [tkr]
        refine rdH 13 rfl (fun K hK => ?_)
        go_simp
        have bx := C2.new Wc 33 (.int .i64 0) (.int .i64 0)
        have bz : W.heap.size ≤ Wc.heap.size := by have := sp.1.zs; have := HN1.out; omega
        have bn : n1 ≤ Wc.heap.size := by have := sp.1.zs; omega
        have hb9 : Below Wc.heap.size Wc (Wc.alloc (.cells #[.int .i64 0, .int .i64 0] 33)) := (Below.refl _ Wc).alloc (Nat.le_refl _) _
        try replace st := st.trans (hb9.mono st.size)
        try replace af := af.alloc (.cells #[.int .i64 0, .int .i64 0] 33)
        replace sp := And.intro (sp.1.below hb9) (sp.2.below hb9)
        refine hK.out _ _ ?_ (fun hH => ?_)
        · exact sp
        clear hK K hb9
        first
          | generalize World.alloc _ _ = Wn at st sp bx hH ⊢
          | generalize World.alloc _ _ = Wn at af sp bx hH ⊢
        first
          | generalize Wc.heap.size = z at af bx bz bn ⊢
          | generalize Wc.heap.size = z at bx bz bn ⊢
        rename World => Wc
        refine rdH 14 rfl (fun K hK => ?_)
        obtain ⟨a0, a1, g0, g1⟩ := bx.all
        go_simp
        clear a0 a1 g0 g1
        have kz : Kp (fun q => q = z) Wc ((Wc.setCell ⟨z, 0, none⟩ (.int .i64 m)).setCell ⟨z, 1, none⟩ (.int .i64 n)) := ((Kp.refl (fun q => q = z) Wc).setCell (.inl rfl) _).setCell (.inl rfl) _
        replace af := af.store kz bz HHR.out.1
        replace sp := And.intro (sp.1.kp kz (fun q h1 h2 hq => by omega)) (sp.2.kp kz (by have := hzl; omega))
        replace bx := (bx.set0 (.int .i64 m)).set1 (.int .i64 n)
        refine hK.out _ _ ?_ (fun hH => ?_)
        · exact sp
        clear hK K kz
        refine tkH ?_ 15 hH ?_ ?_; rotate_left
        · intro W' hS; go_simp; with_reducible rfl
        simp only [tkr]
        refine wpAnyH_done (by kernel_rfl) ?_ _
        refine NoPanic.normal ?_
        clear l0 l1 o0 o1 o3 k0 k1 k2
        go_wp2_with fail
        go_meet
        exact ⟨z, m, n, er, rfl, rfl, bx, bz, af, sp⟩
      · go_simp
        have bx := C2.new Wc 33 (.int .i64 0) (.int .i64 0)
        have bz : W.heap.size ≤ Wc.heap.size := by have := sp.1.zs; have := HN1.out; omega
        have bn : n1 ≤ Wc.heap.size := by have := sp.1.zs; omega
        have hb9 : Below Wc.heap.size Wc (Wc.alloc (.cells #[.int .i64 0, .int .i64 0] 33)) := (Below.refl _ Wc).alloc (Nat.le_refl _) _
        try replace st := st.trans (hb9.mono st.size)
        try replace af := af.alloc (.cells #[.int .i64 0, .int .i64 0] 33)
        replace sp := And.intro (sp.1.below hb9) (sp.2.below hb9)
        refine hK.out _ _ ?_ (fun hH => ?_)
        · exact sp
        clear hK K hb9
        first
          | generalize World.alloc _ _ = Wn at st sp bx hH ⊢
          | generalize World.alloc _ _ = Wn at af sp bx hH ⊢
        first
          | generalize Wc.heap.size = z at af bx bz bn ⊢
          | generalize Wc.heap.size = z at bx bz bn ⊢
        rename World => Wc
        refine rdH 9 rfl (fun K hK => ?_)
        go_simp
        have hn9 := sp.1.zs
        first
          | (refine (HPUT.out Wc st (by omega) [z] (fun y hy => by rw [List.mem_singleton] at hy; rw [hy]; exact ⟨bz, bx.lt⟩)).mono ?_)
          | (refine (HPUT.out Wc st (by omega) [] (fun y hy => by simp at hy)).mono ?_)
        rintro x Wc ⟨m, n, er, rfl, af, hk9⟩
        replace sp := And.intro (sp.1.kp hk9 (fun q h1 h2 hq => hq.elim (fun hq => by have := HHR.out.2.1 q hq; omega) (fun hq => by have := HHR.out.1; omega))) (sp.2.kp hk9 (fun hq => hq.elim HWD.out.lo.2.2.2 HWD.out.lo.2.2.1))
        try replace bx := bx.kp hk9 (fun hq => hq.elim (fun hq => by have := HHR.out.2.1 _ hq; omega) (fun hq => by have := HHR.out.1; omega))
        clear hk9 st hn9
        simp only
        refine hK.out _ _ ?_ (fun hH => ?_)
        · exact sp
        clear hK K
        refine tkH ?_ 10 hH ?_ ?_; rotate_left
        · intro W' hS; go_simp; with_reducible rfl
        simp only [tkr]
        refine tkH ?_ 11 hH ?_ ?_; rotate_left
        · intro W' hS; go_simp; with_reducible rfl
        simp only [tkr]
        refine tkH ?_ 12 hH ?_ ?_; rotate_left
        · intro W' hS; go_simp; with_reducible rfl
        simp only [tkr]
        refine rdH 14 rfl (fun K hK => ?_)
        obtain ⟨a0, a1, g0, g1⟩ := bx.all
        go_simp
        clear a0 a1 g0 g1
        have kz : Kp (fun q => q = z) Wc ((Wc.setCell ⟨z, 0, none⟩ (.int .i64 m)).setCell ⟨z, 1, none⟩ (.int .i64 n)) := ((Kp.refl (fun q => q = z) Wc).setCell (.inl rfl) _).setCell (.inl rfl) _
        replace af := af.store kz bz HHR.out.1
        replace sp := And.intro (sp.1.kp kz (fun q h1 h2 hq => by omega)) (sp.2.kp kz (by have := hzl; omega))
        replace bx := (bx.set0 (.int .i64 m)).set1 (.int .i64 n)
        refine hK.out _ _ ?_ (fun hH => ?_)
        · exact sp
        clear hK K kz
        refine tkH ?_ 15 hH ?_ ?_; rotate_left
        · intro W' hS; go_simp; with_reducible rfl
        simp only [tkr]
        refine wpAnyH_done (by kernel_rfl) ?_ _
        refine NoPanic.normal ?_
        clear l0 l1 o0 o1 o3 k0 k1 k2
        go_wp2_with fail
        go_meet
        exact ⟨z, m, n, er, rfl, rfl, bx, bz, af, sp⟩
    case rest =>
      obtain ⟨z, m, n, er, rfl, rfl, bx, bz, af, sp⟩ := hcut
      have SP := Lib.hid sp
      have BX := Lib.hid bx
      have BZ := Lib.hid bz
      have x0 := sp.2.c0
      have y2 : wc.cell? ⟨z9, 2, none⟩ = some (.slice As e.l.length cs) := by rw [← HES.out]; exact sp.1.ob.c2
      rcases af with ⟨rfl, rfl, rfl, hno, hk9, hh9⟩ | ⟨rfl, hno, n', M2, F2, rfl, rfl, dn, hF2⟩
      · rw [hno]
        clear hno
        have b0 := bx.c0
        have b1 := bx.c1
        have HA := Lib.hid (HWD.out.ar.kp hk9 (fun q hf hg => HWD.out.nb (hg ▸ hf)))
        have HFIN := Lib.hid (show Chd8 w0 W wc b bh seed zw hs M F g cp last E M F E from ⟨HWD.out.hash hk9 hh9, rfl, by omega, hk9.mono (fun q e _ => .inr (.inl e)), fun q hq => .inl hq⟩)
        clear sp bx bz hk9 hh9 HPUT
        go_wp2_with fail
        refine (alive b 65536 M F wc HA.out).mono ?_
        rintro x wcx ⟨rfl, rfl⟩
        clear x0 y2 b0 b1
        go_wp2_with fail
        go_ret
        exact ⟨rfl, _, _, _, HFIN.out⟩
      · have DN := Lib.hid dn
        have HF2 := Lib.hid (hF2 z (by simp))
        have HNO := Lib.hid hno
        clear sp bx bz dn hF2 hno HPUT
        have hb : hasB k e.l = true := by cases h : hasB k e.l with
          | true => rfl
          | false => exact absurd h HNO.out
        rw [hb]
        clear hb
        have y3 := SP.out.1.ob.c3
        go_upto_if 70 with fail
        go_cut [] from 70 to 79 (fun wd => ∃ M3 F3, Dn W b bh seed hs M F n1 (fun j => (holds (E.eraseIdx i)).count j) n' (takeL k e.l) wd M3 F3 ∧ ¬ F3 z ∧ (TB wd W.heap.size n1 z6 z9 k e ∧ C5 wd zw 40 (ap b) (.pointer (some ⟨bh, 0, none⟩)) (.int .u64 (seed : Nat)) (.slice (some ⟨g, 0, none⟩) E.length cp) (.int .u32 last)) ∧ C2 wd z 33 (.int .i64 ((takeL k e.l).length : Nat)) (.int .i64 (n' : Nat)))
        case first =>
          clear y2 y3 x0
          by_cases how : e.ow = 0
          · have how2 : (e.ow == 0) = true := by simpa using how
            rw [how2]
            have dn1 := DN.out
            rw [how] at dn1
            have DN1 := Lib.hid (show Dn W b bh seed hs M F n1 (addP (fun j => (holds (E.eraseIdx i)).count j) e.root) n' (takeL k e.l) wc M2 F2 from dn1)
            clear how how2 dn1 DN
            go_upto_region 10 with fail
            have l0 : ∀ W', (TB W' W.heap.size n1 z6 z9 k e ∧ C5 W' zw 40 (ap b) (.pointer (some ⟨bh, 0, none⟩)) (.int .u64 (seed : Nat)) (.slice (some ⟨g, 0, none⟩) E.length cp) (.int .u32 last)) → W'.cell? ⟨zw, 0, none⟩ = some (ap b) := fun W' h => h.2.c0
            have o1 : ∀ W', (TB W' W.heap.size n1 z6 z9 k e ∧ C5 W' zw 40 (ap b) (.pointer (some ⟨bh, 0, none⟩)) (.int .u64 (seed : Nat)) (.slice (some ⟨g, 0, none⟩) E.length cp) (.int .u32 last)) → W'.cell? ⟨z9, 1, none⟩ = some (.int .i64 (e.root : Int)) := fun W' h => h.1.ob.c1
            refine wp_region_noPanic ?_
            have hd : Below wc.heap.size wc wc.drew := (Below.refl _ wc).drew
            have st := DN1.out.below hd
            have sp : TB wc.drew W.heap.size n1 z6 z9 k e ∧ C5 wc.drew zw 40 (ap b) (.pointer (some ⟨bh, 0, none⟩)) (.int .u64 (seed : Nat)) (.slice (some ⟨g, 0, none⟩) E.length cp) (.int .u32 last) := ⟨SP.out.1.below hd, SP.out.2.below hd⟩
            have bx := BX.out.below hd
            refine wp_region_held_drew (S := fun W' => TB W' W.heap.size n1 z6 z9 k e ∧ C5 W' zw 40 (ap b) (.pointer (some ⟨bh, 0, none⟩)) (.int .u64 (seed : Nat)) (.slice (some ⟨g, 0, none⟩) E.length cp) (.int .u32 last)) (by kernel_rfl) sp (fun hH => ?_)
            clear hd SP BX DN1
            generalize wc.drew = Wc at st sp bx hH ⊢
            refine tkH ?_ 0 hH ?_ ?_; rotate_left
            · intro W' hS; go_simp; with_reducible rfl
            simp only [tkr]
            refine tkH ?_ 1 hH ?_ ?_; rotate_left
            · intro W' hS; go_simp; with_reducible rfl
            simp only [tkr]
            refine tkH ?_ 2 hH ?_ ?_; rotate_left
            · intro W' hS; go_simp; with_reducible rfl
            simp only [tkr]
            refine tkH ?_ 3 hH ?_ ?_; rotate_left
            · intro W' hS; go_simp; with_reducible rfl
            simp only [tkr]
            refine tkH ?_ 4 hH ?_ ?_; rotate_left
            · intro W' hS; go_simp; with_reducible rfl
            simp only [tkr]
            refine tkH ?_ 5 hH ?_ ?_; rotate_left
            · intro W' hS; go_simp; with_reducible rfl
            simp only [tkr]
            refine tkH ?_ 6 hH ?_ ?_; rotate_left
            · intro W' hS; go_simp; with_reducible rfl
            simp only [tkr]
            refine tkH ?_ 7 hH ?_ ?_; rotate_left
            · intro W' hS; go_simp; with_reducible rfl
            simp only [tkr]
            refine rdH 8 rfl (fun K hK => ?_)
            go_simp
            have hP : ∀ j, addP (fun j => (holds (E.eraseIdx i)).count j) n' j ≤ 576460752303423488 := fun j => by
              have h1 := holds_bound (E := E) (k := i) HE.out.2.2.2 j
              show (holds (E.eraseIdx i)).count j + (if j = n' then 1 else 0) ≤ 576460752303423488
              split <;> omega
            refine (drop1_bk e.root Wc st.ar (by decide) hP (st.bk.move (fun k _ => by simp only [count1r]; unfold addP; omega) (fun x hx => by simp at hx))).mono ?_
            rintro x Wd ⟨⟨zz, rfl⟩, M3, hb3, hk3, hl3, hs3⟩
            have hbl : bh < Wc.heap.size := st.hh.lt
            have hzl2 : z < Wc.heap.size := bx.lt
            have hd3 := st.drop hs3 hb3 hk3 hl3 hbl
            have hn9 := sp.1.zs
            have sp3 := And.intro (sp.1.kp hs3.kp (fun q h1 h2 hq => (st.fr q hq).elim (fun hq => by have := HHR.out.2.1 q hq; omega) (fun hq => by omega))) (sp.2.kp hs3.kp (fun hq => (st.fr zw hq).elim HWD.out.lo.2.2.2 (fun hq => by have := hzl; have := HN1.out; omega)))
            have bx3 := bx.kp hs3.kp HF2.out
            have hz3 : ¬ Fn F2 Wc Wd z := fun hq => hq.elim HF2.out (fun hq => by omega)
            clear hP hs3 hb3 hk3 hl3 hbl hzl2 hn9 st sp bx
            simp only
            refine hK.out _ _ ?_ (fun hH => ?_)
            · exact sp3
            clear hK K
            refine wpAnyH_done (by kernel_rfl) ?_ _
            refine NoPanic.normal ?_
            clear l0 o1
            go_wp2_with fail
            go_meet
            exact ⟨_, _, hd3, hz3, sp3, bx3⟩
          · have how2 : (e.ow == 0) = false := by simpa using how
            rw [how2]
            have dn1 := DN.out
            rw [show out1 (fun j => (holds (E.eraseIdx i)).count j) e.root e.ow = (fun j => (holds (E.eraseIdx i)).count j) from if_neg how] at dn1
            have DN1 := Lib.hid dn1
            clear how how2 dn1
            go_wp2_with fail
            go_meet
            exact ⟨_, _, DN1.out, HF2.out, SP.out, BX.out⟩
        case rest =>
          obtain ⟨M3, F3, dn, hz3, sp, bx⟩ := hcut
          clear y2 y3 x0 SP BX DN HF2
          have HZ3 := Lib.hid hz3
          clear hz3
          have BX := Lib.hid bx
          have DN := Lib.hid dn
          have SP := Lib.hid sp
          clear sp bx dn
          go_upto_region 11 with fail
          have l3 : ∀ W', (TB W' W.heap.size n1 z6 z9 k e ∧ C5 W' zw 40 (ap b) (.pointer (some ⟨bh, 0, none⟩)) (.int .u64 (seed : Nat)) (.slice (some ⟨g, 0, none⟩) E.length cp) (.int .u32 last) ∧ C2 W' z 33 (.int .i64 ((takeL k e.l).length : Nat)) (.int .i64 (n' : Nat))) → W'.cell? ⟨zw, 3, none⟩ = some (.slice (some ⟨g, 0, none⟩) E.length cp) := fun W' h => h.2.1.c3
          have m0 : ∀ W', (TB W' W.heap.size n1 z6 z9 k e ∧ C5 W' zw 40 (ap b) (.pointer (some ⟨bh, 0, none⟩)) (.int .u64 (seed : Nat)) (.slice (some ⟨g, 0, none⟩) E.length cp) (.int .u32 last) ∧ C2 W' z 33 (.int .i64 ((takeL k e.l).length : Nat)) (.int .i64 (n' : Nat))) → W'.cell? ⟨z, 0, none⟩ = some (.int .i64 ((takeL k e.l).length : Nat)) := fun W' h => h.2.2.c0
          have m1 : ∀ W', (TB W' W.heap.size n1 z6 z9 k e ∧ C5 W' zw 40 (ap b) (.pointer (some ⟨bh, 0, none⟩)) (.int .u64 (seed : Nat)) (.slice (some ⟨g, 0, none⟩) E.length cp) (.int .u32 last) ∧ C2 W' z 33 (.int .i64 ((takeL k e.l).length : Nat)) (.int .i64 (n' : Nat))) → W'.cell? ⟨z, 1, none⟩ = some (.int .i64 (n' : Nat)) := fun W' h => h.2.2.c1
          have o2 : ∀ W', (TB W' W.heap.size n1 z6 z9 k e ∧ C5 W' zw 40 (ap b) (.pointer (some ⟨bh, 0, none⟩)) (.int .u64 (seed : Nat)) (.slice (some ⟨g, 0, none⟩) E.length cp) (.int .u32 last) ∧ C2 W' z 33 (.int .i64 ((takeL k e.l).length : Nat)) (.int .i64 (n' : Nat))) → W'.cell? ⟨z9, 2, none⟩ = some (.slice As e.l.length cs) := fun W' h => by rw [← HES.out]; exact h.1.ob.c2
          have o3 : ∀ W', (TB W' W.heap.size n1 z6 z9 k e ∧ C5 W' zw 40 (ap b) (.pointer (some ⟨bh, 0, none⟩)) (.int .u64 (seed : Nat)) (.slice (some ⟨g, 0, none⟩) E.length cp) (.int .u32 last) ∧ C2 W' z 33 (.int .i64 ((takeL k e.l).length : Nat)) (.int .i64 (n' : Nat))) → W'.cell? ⟨z9, 3, none⟩ = some (.int .u32 e.ow) := fun W' h => h.1.ob.c3
          have k0 : ∀ W', (TB W' W.heap.size n1 z6 z9 k e ∧ C5 W' zw 40 (ap b) (.pointer (some ⟨bh, 0, none⟩)) (.int .u64 (seed : Nat)) (.slice (some ⟨g, 0, none⟩) E.length cp) (.int .u32 last) ∧ C2 W' z 33 (.int .i64 ((takeL k e.l).length : Nat)) (.int .i64 (n' : Nat))) → W'.cell? ⟨z6, 0, none⟩ = some (.int .u8 k.1) := fun W' h => h.1.kb.c0
          have k1 : ∀ W', (TB W' W.heap.size n1 z6 z9 k e ∧ C5 W' zw 40 (ap b) (.pointer (some ⟨bh, 0, none⟩)) (.int .u64 (seed : Nat)) (.slice (some ⟨g, 0, none⟩) E.length cp) (.int .u32 last) ∧ C2 W' z 33 (.int .i64 ((takeL k e.l).length : Nat)) (.int .i64 (n' : Nat))) → W'.cell? ⟨z6, 1, none⟩ = some (.int .i64 k.2.1) := fun W' h => h.1.kb.c1
          have k2 : ∀ W', (TB W' W.heap.size n1 z6 z9 k e ∧ C5 W' zw 40 (ap b) (.pointer (some ⟨bh, 0, none⟩)) (.int .u64 (seed : Nat)) (.slice (some ⟨g, 0, none⟩) E.length cp) (.int .u32 last) ∧ C2 W' z 33 (.int .i64 ((takeL k e.l).length : Nat)) (.int .i64 (n' : Nat))) → W'.cell? ⟨z6, 2, none⟩ = some (.string k.2.2) := fun W' h => h.1.kb.c2
          refine wp_region_noPanic ?_
          have hd : Below wc.heap.size wc wc.drew := (Below.refl _ wc).drew
          have st := DN.out.below hd
          have sp : TB wc.drew W.heap.size n1 z6 z9 k e ∧ C5 wc.drew zw 40 (ap b) (.pointer (some ⟨bh, 0, none⟩)) (.int .u64 (seed : Nat)) (.slice (some ⟨g, 0, none⟩) E.length cp) (.int .u32 last) ∧ C2 wc.drew z 33 (.int .i64 ((takeL k e.l).length : Nat)) (.int .i64 (n' : Nat)) := ⟨SP.out.1.below hd, SP.out.2.below hd, BX.out.below hd⟩
          refine wp_region_held_drew (S := fun W' => (TB W' W.heap.size n1 z6 z9 k e ∧ C5 W' zw 40 (ap b) (.pointer (some ⟨bh, 0, none⟩)) (.int .u64 (seed : Nat)) (.slice (some ⟨g, 0, none⟩) E.length cp) (.int .u32 last) ∧ C2 W' z 33 (.int .i64 ((takeL k e.l).length : Nat)) (.int .i64 (n' : Nat)))) (by kernel_rfl) sp (fun hH => ?_)
          clear hd SP BX DN
          generalize wc.drew = Wc at st sp hH ⊢
          refine tkH ?_ 0 hH ?_ ?_; rotate_left
          · intro W' hS; go_simp; with_reducible rfl
          simp only [tkr]
          refine tkH ?_ 1 hH ?_ ?_; rotate_left
          · intro W' hS; go_simp; with_reducible rfl
          simp only [tkr]
          refine tkH ?_ 2 hH ?_ ?_; rotate_left
          · intro W' hS; go_simp; with_reducible rfl
          simp only [tkr]
          refine tkH ?_ 3 hH ?_ ?_; rotate_left
          · intro W' hS; go_simp; with_reducible rfl
          simp only [tkr]
          refine tkH ?_ 4 hH ?_ ?_; rotate_left
          · intro W' hS; go_simp; with_reducible rfl
          simp only [tkr]
          refine tkH ?_ 5 hH ?_ ?_; rotate_left
          · intro W' hS; go_simp; with_reducible rfl
          simp only [tkr]
          refine tkH ?_ 6 hH ?_ ?_; rotate_left
          · intro W' hS; go_simp; with_reducible rfl
          simp only [tkr]
          refine tkH ?_ 7 hH ?_ ?_; rotate_left
          · intro W' hS; go_simp; with_reducible rfl
          simp only [tkr]
          refine tkH ?_ 8 hH ?_ ?_; rotate_left
          · intro W' hS; go_simp; with_reducible rfl
          simp only [tkr]
          refine tkH ?_ 11 hH ?_ ?_; rotate_left
          · intro W' hS; go_simp; with_reducible rfl
          simp only [tkr]
          refine tkH ?_ 12 hH ?_ ?_; rotate_left
          · intro W' hS; go_simp; with_reducible rfl
          simp only [tkr]
          refine rdH 9 rfl (fun K hK => ?_)
          go_simp
          refine (lof8 k Wc).mono ?_
          rintro x Wc ⟨rfl, hb9⟩
          replace st := st.below hb9
          replace sp := And.intro (sp.1.below hb9) (And.intro (sp.2.1.below hb9) (sp.2.2.below hb9))
          clear hb9
          simp only
          refine hK.out _ _ ?_ (fun hH => ?_)
          · exact sp
          clear hK K
          refine rdH 10 rfl (fun K hK => ?_)
          go_simp
          have hFr : ∀ q, F3 q → q < Wc.heap.size := fun q hq => st.ar.lt hq
          have hWs : W.heap.size ≤ Wc.heap.size := st.kp.size
          refine (rtake w0.heap.size (.slice As e.l.length cs) k e.l Wc (by have := HWD.out.len e HM.out; omega) (by have := ((Kp.of_below (Below.refl _ Wc) (fun _ => False)).own (st.kp.own (HWD.out.row e HM.out) (fun q hq hx => hx.elim (HWD.out.far e HM.out q hq).1 (HWD.out.far e HM.out q hq).2.1)) (fun _ _ h => h)); rw [HES.out] at this; exact this)).mono ?_
          rintro x Wd ⟨y, rfl, hown, hb9⟩
          have st5 := st.below hb9
          have sp5 := And.intro (sp.1.below hb9) (And.intro (sp.2.1.below hb9) (sp.2.2.below hb9))
          have hfar : ∀ q, y.ownBlock = some q → ¬ F3 q ∧ W.heap.size ≤ q := fun q hq => by
            have h1 := (own_blk hown q hq).1
            exact ⟨fun hf => by have := hFr q hf; omega, by omega⟩
          obtain ⟨Ay, cy, rfl, _⟩ := (Rd.of_own hown).form
          have hown2 := own_base hown (show w0.heap.size ≤ Wc.heap.size from Nat.le_trans HWD.out.bel.size hWs)
          clear hb9 hFr hWs hown st sp
          simp only
          refine hK.out _ _ ?_ (fun hH => ?_)
          · exact sp5
          clear hK K
          refine tkH ?_ 13 hH ?_ ?_; rotate_left
          · intro W' hS; go_simp; with_reducible rfl
          simp only [tkr]
          refine tkH ?_ 14 hH ?_ ?_; rotate_left
          · intro W' hS; go_simp; with_reducible rfl
          simp only [tkr]
          refine rdH 15 rfl (fun K hK => ?_)
          obtain ⟨c0, c1, c2, c3, f0, f1, f2, f3⟩ := row4 (st5.kp.own HWD.out.all (fun q hq hx => hx.elim (HWD.out.own q hq).1 (HWD.out.own q hq).2.1)) HE.out.1
          go_simp
          have hbl := HHR.out.1
          obtain ⟨og1, og2, og3⟩ := HWD.out.own g rfl
          have hgl := HHR.out.2.2
          have wd9 := HWD.out.put (e' := ⟨n', (takeL k e.l), .slice Ay (takeL k e.l).length cy, e.ow⟩) HE.out.1 st5.ar st5.hh (fun q hq => (st5.fr q hq).imp id (fun h => Nat.le_trans HN1.out h)) st5.kp st5.bk st5.keeps st5.mp (fun q hq => HWD.out.keys e HM.out q ((takeL_spec (HWD.out.mp e HM.out).srt).2 q |>.1 hq).1) (Nat.le_trans (List.length_filter_le _ _) (HWD.out.len e HM.out)) hown2 (fun q hq => ⟨(hfar q hq).1, by have := (hfar q hq).2; omega, by have := (hfar q hq).2; have := hzl; omega, by have := (hfar q hq).2; omega⟩)
          have k4 : Kp (fun q => q = g) Wd ((((Wd.setCell ⟨g, i * 4, none⟩ (.int .i64 ((takeL k e.l).length : Nat))).setCell ⟨g, i * 4 + 1, none⟩ (.int .i64 (n' : Nat))).setCell ⟨g, i * 4 + 2, none⟩ (.slice Ay (takeL k e.l).length cy)).setCell ⟨g, i * 4 + 3, none⟩ (.int .u32 e.ow)) :=
            ((((Kp.refl (fun q => q = g) Wd).setCell (.inl rfl) _).setCell (.inl rfl) _).setCell (.inl rfl) _).setCell (.inl rfl) _
          have ch : Chd8 w0 W ((((Wd.setCell ⟨g, i * 4, none⟩ (.int .i64 ((takeL k e.l).length : Nat))).setCell ⟨g, i * 4 + 1, none⟩ (.int .i64 (n' : Nat))).setCell ⟨g, i * 4 + 2, none⟩ (.slice Ay (takeL k e.l).length cy)).setCell ⟨g, i * 4 + 3, none⟩ (.int .u32 e.ow)) b bh seed zw hs M F g cp last E M3 F3 (E.set i ⟨n', (takeL k e.l), .slice Ay (takeL k e.l).length cy, e.ow⟩) :=
            ⟨wd9, List.length_set, st5.live, (st5.kp.mono (fun q h _ => h.imp id .inl)).trans k4 (fun q e => .inl (.inr (.inr e))), fun q hq => (st5.fr q hq).imp id (fun h => Nat.le_trans HN1.out h)⟩
          clear c0 c1 c2 c3 f0 f1 f2 f3
          refine hK.out _ _ ?_ (fun hH => ?_)
          · exact ⟨sp5.1.kp k4 (fun q h1 h2 e => by omega), sp5.2.1.kp k4 (fun e => og3 e.symm), sp5.2.2.kp k4 (fun e => by have := BZ.out; omega)⟩
          clear hK K k4 wd9 hfar hown2 sp5 st5
          refine wpAnyH_done (by kernel_rfl) ?_ _
          refine NoPanic.normal ?_
          clear l3 m0 m1 o2 o3 k0 k1 k2 hH hil
          have CH := Lib.hid ch
          clear ch
          go_wp2_with fail
          go_ret
          exact ⟨rfl, _, _, _, CH.out⟩
end
end Go.Proofs.YthcpjehkjhpjfaaGreat

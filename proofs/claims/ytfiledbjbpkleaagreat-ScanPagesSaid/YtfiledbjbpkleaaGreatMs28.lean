/- Several texts in one. -/
import Derived.Test.YtfiledbjbpkleaaGreatMs27
import Derived.Test.YtfiledbjbpkleaaGreatMs01
import Derived.Test.YtfiledbjbpkleaaGreatMs09
import Derived.IntWalk
import Derived.Deep.CutRange
import Derived.Deep.CutBlock
import Derived.Test.YtfiledbjbpkleaaGreatMs11
set_option linter.unusedSimpArgs false
namespace Go.Proofs.YtfiledbjbpkleaaGreat
set_option maxRecDepth 100000
set_option linter.unusedSimpArgs false
set_option linter.unusedVariables false
open Go.RowKit
def okB (k : Ky) : Bool := rightB k.1 k.2.1 k.2.2 && decide (k.2.2.size ≤ 60)
def mkL (hs : Ky → Nat) : Nat → List Ky → List Pr → List Pr
  | _, [], acc => acc
  | j, k :: l, acc => mkL hs (j + 1) l (putL hs (k, (2, (j : Int), ⟨#[]⟩)) acc)
theorem own_c3 {w : World} {z z' : Nat} {t t' : TypeId} {x0 x1 x2 y0 y1 : Value} (h : C3 w z t x0 x1 x2) (h' : C2 w z' t' y0 y1) (ht : t ≠ t') : z ≠ z' := fun e => by
  subst e
  have h1 : w.heap[z]? = some _ := h
  have h2 : w.heap[z]? = some _ := h'
  rw [h1] at h2
  simp at h2
theorem own_none (w : World) (base : Nat) : w.ownsRow base 63 6 (.slice none 0 0) ([] : List Pr).length (([] : List Pr).flatMap pcells) := World.ownsRow_nil _ _ _ _
section
set_option maxHeartbeats 8000000 in
theorem lmade9 (seed : Nat) (hs : Ky → Nat) (hhs : ∀ q, OkK q → hs q = hashN seed q.1 q.2.1 q.2.2) (A : Option Addr) (l : List Ky) (c : Nat) (w : World) (h : Lst w A l) (hf : ∀ k ∈ l, 0 ≤ k.1 ∧ k.1 ≤ 255) (hl : l.length ≤ 200) :
    Calls Tryz.prog 24 #[.int .u64 (seed : Nat), .slice A l.length c] w fun e W => ∃ (b bh root : Nat) (M : Cells) (F : Nat → Prop) (L : List Pr) (v : Value), e = .returned (.tuple #[land b bh, .agg #[.int .i64 (L.length : Int), .int .i64 (root : Int)], v, .bool (l.all okB)]) ∧ (∃ j, j ≤ 200 ∧ Md w b bh seed hs j root M F L L v W) ∧ (l.all okB = true → L = mkL hs 0 l []) := by
  have HHS := Lib.hid hhs
  have HL := Lib.hid h
  have HF := Lib.hid hf
  have HN := Lib.hid hl
  clear hhs h hf hl
  go_enter Tryz.func24, Tryz.ntmps24
  go_wp2_with fail
  refine (anew 16384 _ (by decide) (by decide)).mono ?_
  rintro e w1 ⟨rfl, ha, hb1⟩
  have H1 := Lib.hid (And.intro ha hb1)
  clear ha hb1
  go_wp2_with fail
  refine (hnew seed w1).mono ?_
  rintro e w2 ⟨rfl, hh, hg⟩
  have H2 := Lib.hid (And.intro hh hg.below)
  clear hh hg
  go_upto_region 5 with fail
  have hsz : ((w.alloc (.cells #[.pointer none, .pointer none] 26)).alloc (.cells #[.int .i64 0, .int .i64 0] 30)).heap.size = w.heap.size + 1 + 1 := by simp
  obtain ⟨b, hb⟩ : ∃ b, b = w.heap.size + 1 + 1 := ⟨_, rfl⟩
  obtain ⟨bh, hbh⟩ : ∃ b, b = w1.heap.size := ⟨_, rfl⟩
  have st0 : Md w b bh seed hs 0 0 (fun _ => none) (fun k => k = b) [] [] (.slice none 0 0) ((w2.alloc (.cells #[ap b, .pointer (some ⟨bh, 0, none⟩)] 26)).alloc (.cells #[.int .i64 0, .int .i64 0] 30)) ∧ Mx w b bh w.heap.size (w.heap.size + 1) w2.heap.size (w2.heap.size + 1) 0 0 (fun k => k = b) ((w2.alloc (.cells #[ap b, .pointer (some ⟨bh, 0, none⟩)] 26)).alloc (.cells #[.int .i64 0, .int .i64 0] 30)) := by
    obtain ⟨ha, hb1⟩ := H1.out
    obtain ⟨hh, hb2⟩ := H2.out
    rw [hsz, ← hb] at ha
    rw [← hbh] at hh
    have s1 := hb1.size
    have s2 := hb2.size
    have hal := ha.blt
    have hhl := hh.lt
    rw [hsz] at s1
    have f2 : Below ((w.alloc (.cells #[.pointer none, .pointer none] 26)).alloc (.cells #[.int .i64 0, .int .i64 0] 30)).heap.size ((w.alloc (.cells #[.pointer none, .pointer none] 26)).alloc (.cells #[.int .i64 0, .int .i64 0] 30)) w2 := hb1.trans (hb2.mono hb1.size)
    have q4 := (C2.new w 26 (.pointer none) (.pointer none)).alloc (.cells #[.int .i64 0, .int .i64 0] 30)
    have q5 := C2.new (w.alloc (.cells #[.pointer none, .pointer none] 26)) 30 (.int .i64 0) (.int .i64 0)
    have q10 := (C2.new w2 26 (ap b) (.pointer (some ⟨bh, 0, none⟩))).alloc (.cells #[.int .i64 0, .int .i64 0] 30)
    have q11 := C2.new (w2.alloc (.cells #[ap b, .pointer (some ⟨bh, 0, none⟩)] 26)) 30 (.int .i64 0) (.int .i64 0)
    have b3 : Below w2.heap.size w2 ((w2.alloc (.cells #[ap b, .pointer (some ⟨bh, 0, none⟩)] 26)).alloc (.cells #[.int .i64 0, .int .i64 0] 30)) := ((Below.refl _ w2).alloc (Nat.le_refl _) _).alloc (by simp) _
    have b0 : Below w.heap.size w ((w.alloc (.cells #[.pointer none, .pointer none] 26)).alloc (.cells #[.int .i64 0, .int .i64 0] 30)) := ((Below.refl _ w).alloc (Nat.le_refl _) _).alloc (by simp) _
    refine ⟨⟨(ha.below hb2).below b3, hh.below b3, fun e => by omega, (b0.trans (f2.mono b0.size)).trans (b3.mono (by omega)), fun q e => by omega, by omega, bk0 16384, .inl ⟨rfl, rfl⟩, by rw [live_zero fun _ => rfl]; exact Nat.zero_le _, Nat.zero_le _, fun q hq => (by cases hq), own_none _ _, fun q hq => (by cases hq)⟩, (q4.below f2).below b3, ?_, q10, by simpa using q11, ⟨by omega, by omega, by omega, by simp <;> omega⟩, ⟨by omega, by omega, by omega, by simp <;> omega⟩, ⟨by omega, by omega, by omega, by simp <;> omega⟩, ⟨by omega, by omega, by omega, by simp <;> omega⟩, by omega, by omega, by omega⟩
    have h := (q5.below f2).below b3
    simpa using h
  rw [← hb, ← hbh]
  generalize (w2.alloc (.cells #[ap b, .pointer (some ⟨bh, 0, none⟩)] 26)).alloc (.cells #[.int .i64 0, .int .i64 0] 30) = w3 at st0 ⊢
  obtain ⟨z4, hz4⟩ : ∃ z, z = w.heap.size := ⟨_, rfl⟩
  obtain ⟨z5, hz5⟩ : ∃ z, z = w.heap.size + 1 := ⟨_, rfl⟩
  obtain ⟨z10, hz10⟩ : ∃ z, z = w2.heap.size := ⟨_, rfl⟩
  obtain ⟨z11, hz11⟩ : ∃ z, z = w2.heap.size + 1 := ⟨_, rfl⟩
  rw [← hz5, ← hz11, ← hz10, ← hz4]
  have ST0 := Lib.hid (show Md w b bh seed hs 0 0 (fun _ => none) (fun k => k = b) [] [] (.slice none 0 0) w3 ∧ Mx w b bh z4 z5 z10 z11 0 0 (fun k => k = b) w3 from by rw [hz4, hz5, hz11, hz10]; exact st0)
  clear hsz hb hbh hz4 hz5 hz10 hz11 st0 H1 H2
  go_wp2_with fail
  go_loopg [12, 27] l.length (fun c' s12 s27 wr => ∃ (j root : Nat) (M : Cells) (F : Nat → Prop) (L : List Pr) (v : Value), j + c' = l.length ∧ s27 = .int .i64 (j : Int) ∧ s12 = v ∧ Md w b bh seed hs j root M F L L v wr ∧ Mx w b bh z4 z5 z10 z11 L.length root F wr ∧ mkL hs 0 l [] = mkL hs j (l.drop j) L ∧ ∀ k ∈ l.take j, okB k = true)
  case atStart => exact ⟨0, 0, fun _ => none, fun k => k = b, [], .slice none 0 0, by omega, rfl, rfl, ST0.out.1, ST0.out.2, rfl, fun k hk => by simp at hk⟩
  case round =>
    clear ST0
    obtain ⟨j, root, M, F, L, v, hj, rfl, rfl, md, mx, hmk, hall⟩ := hrel
    have MD := Lib.hid md
    have MX := Lib.hid mx
    have HMK := Lib.hid (And.intro hmk hall)
    have ne10 : z5 ≠ z10 ∧ z5 ≠ z11 := by have := mx.ne; omega
    have ne11 := fun e => ne10.2 (Eq.symm e)
    replace ne10 := fun e => ne10.1 (Eq.symm e)
    clear md mx hmk hall
    by_cases h1 : j < l.length
    · obtain ⟨k, hk⟩ : ∃ k, l[j]? = some k := ⟨_, List.getElem?_eq_getElem h1⟩
      obtain ⟨g, o, rfl, hgl, c0, c1, c2⟩ := (HL.out.below MD.out.bel).at hk
      have y1 : (0 : Int) ≤ (j : Int) := by omega
      have y2 : (j : Int) < (l.length : Int) := by omega
      have HJ := Lib.hid (And.intro hj (And.intro h1 hk))
      have hkb := HF.out k (List.mem_of_getElem? hk)
      have HKB := Lib.hid hkb
      clear hj h1 hk hgl hkb
      go_upto_region 8 with fail
      have MD7 := Lib.hid (MD.out.below ((Below.refl _ wr).alloc (Nat.le_refl _) (.cells #[.int .u8 k.1, .int .i64 k.2.1, .string k.2.2] 36)))
      have MX7 := Lib.hid (MX.out.below ((Below.refl _ wr).alloc (Nat.le_refl _) (.cells #[.int .u8 k.1, .int .i64 k.2.1, .string k.2.2] 36)))
      have KB7 := Lib.hid (And.intro (C3.new wr 36 (.int .u8 k.1) (.int .i64 k.2.1) (.string k.2.2)) (MD.out.ap (W' := wr.alloc (.cells #[.int .u8 k.1, .int .i64 k.2.1, .string k.2.2] 36)) rfl (by simp)))
      generalize wr.alloc (.cells #[.int .u8 k.1, .int .i64 k.2.1, .string k.2.2] 36) = w7 at MD7 MX7 KB7 ⊢
      generalize wr.heap.size = z14 at KB7 ⊢
      clear c0 c1 c2 MD MX wr
      obtain ⟨c0, c1, c2, d0, d1, d2⟩ := KB7.out.1.all
      go_wp2_with fail
      refine (lof9 k w7).mono ?_
      rintro e w8 ⟨rfl, hb8⟩
      have HB8 := Lib.hid hb8
      clear hb8
      go_wp2_with fail
      refine (ref_right k.1 k.2.1 k.2.2 w8).mono ?_
      rintro e w9 ⟨rfl, g9⟩
      have MD8 := Lib.hid (MD7.out.below (HB8.out.trans (g9.below.mono HB8.out.size)))
      have MX8 := Lib.hid (MX7.out.below (HB8.out.trans (g9.below.mono HB8.out.size)))
      have KB8 := Lib.hid (And.intro (KB7.out.1.below (HB8.out.trans (g9.below.mono HB8.out.size))) (KB7.out.2.size (HB8.out.trans (g9.below.mono HB8.out.size)).size))
      clear g9 HB8 MD7 MX7 KB7 c0 c1 c2 d0 d1 d2
      cases hkr : rightB k.1 k.2.1 k.2.2
      · have HNO := Lib.hid (show l.all okB = false from by rw [List.all_eq_false]; exact ⟨k, List.mem_of_getElem? HJ.out.2.2, by unfold okB; rw [hkr, Bool.false_and]; decide⟩)
        go_upto_region 9 with fail
        refine wp_region_noPanic ?_
        refine wp_region_held_drew (S := fun W' => C2 W' z10 26 (ap b) (.pointer (some ⟨bh, 0, none⟩)) ∧ C2 W' z11 30 (.int .i64 (L.length : Int)) (.int .i64 (root : Int))) (by kernel_rfl) (show _ ∧ _ from ⟨MX8.out.cl.below (Below.refl _ _).drew, MX8.out.cm.below (Below.refl _ _).drew⟩) (fun hH => ?_)
        have l0 : ∀ W', (C2 W' z10 26 (ap b) (.pointer (some ⟨bh, 0, none⟩)) ∧ C2 W' z11 30 (.int .i64 (L.length : Int)) (.int .i64 (root : Int))) → W'.cell? ⟨z10, 0, none⟩ = some (ap b) := fun W' h => h.1.c0
        have l1 : ∀ W', (C2 W' z10 26 (ap b) (.pointer (some ⟨bh, 0, none⟩)) ∧ C2 W' z11 30 (.int .i64 (L.length : Int)) (.int .i64 (root : Int))) → W'.cell? ⟨z10, 1, none⟩ = some (.pointer (some ⟨bh, 0, none⟩)) := fun W' h => h.1.c1
        have l2 : ∀ W', (C2 W' z10 26 (ap b) (.pointer (some ⟨bh, 0, none⟩)) ∧ C2 W' z11 30 (.int .i64 (L.length : Int)) (.int .i64 (root : Int))) → W'.cell? ⟨z11, 0, none⟩ = some (.int .i64 (L.length : Int)) := fun W' h => h.2.c0
        have l3 : ∀ W', (C2 W' z10 26 (ap b) (.pointer (some ⟨bh, 0, none⟩)) ∧ C2 W' z11 30 (.int .i64 (L.length : Int)) (.int .i64 (root : Int))) → W'.cell? ⟨z11, 1, none⟩ = some (.int .i64 (root : Int)) := fun W' h => h.2.c1
        have mq := And.intro (MD8.out.below (Below.refl _ _).drew) (MX8.out.below (Below.refl _ _).drew)
        generalize World.drew _ = Wc at mq hH ⊢
        obtain ⟨hmd, hmx⟩ := mq
        refine tkH ?_ 0 hH ?_ ?_; rotate_left
        · intro W' hS; go_simp; with_reducible rfl
        simp only [tkr]
        refine tkH ?_ 1 hH ?_ ?_; rotate_left
        · intro W' hS; go_simp; with_reducible rfl
        simp only [tkr]
        refine tkH ?_ 2 hH ?_ ?_; rotate_left
        · intro W' hS; go_simp; with_reducible rfl
        simp only [tkr]
        refine rdH 3 rfl (fun K hK => ?_)
        have hq4 := hmx.c4
        obtain ⟨r0, r1, g0, g1⟩ := hq4.all
        go_simp
        clear r0 r1 g0 g1
        have kz := Kp.two Wc z4 (ap b) (.pointer (some ⟨bh, 0, none⟩))
        have q4 := (hq4.set0 (ap b)).set1 (.pointer (some ⟨bh, 0, none⟩))
        have q5 := hmx.c5.kp kz (fun e => by have := hmx.ne; omega)
        have ql := hmx.cl.kp kz (fun e => by have := hmx.ne; omega)
        have qm := hmx.cm.kp kz (fun e => by have := hmx.ne; omega)
        have md4 := hmd.kp kz (fun q e => by rw [e]; exact ⟨hmx.a4.1, hmx.a4.2.1, hmx.a4.2.2.1, hmd.two hq4 (by decide)⟩)
        have a5 := And.intro (And.intro hmx.a5.1 (And.intro hmx.a5.2.1 hmx.a5.2.2.1)) hmx.ne.1
        clear hq4 kz hmx hmd
        refine hK.out _ _ ?_ (fun hH => ?_)
        · exact ⟨ql, qm⟩
        clear hK K
        generalize World.setCell _ _ _ = Wn at q4 q5 ql qm md4 hH ⊢
        rename World => Wc
        refine rdH 4 rfl (fun K hK => ?_)
        obtain ⟨r0, r1, g0, g1⟩ := q5.all
        go_simp
        clear r0 r1 g0 g1
        have kz := Kp.two Wc z5 (.int .i64 (L.length : Int)) (.int .i64 (root : Int))
        have p5 := (q5.set0 (.int .i64 (L.length : Int))).set1 (.int .i64 (root : Int))
        have p4 := q4.kp kz (fun e => by have := a5.2; omega)
        have pl := ql.kp kz (fun e => ne10 e)
        have pm := qm.kp kz (fun e => ne11 e)
        have md5 := md4.kp kz (fun q e => by rw [e]; exact ⟨a5.1.1, a5.1.2.1, a5.1.2.2, md4.two q5 (by decide)⟩)
        clear q4 q5 ql qm kz md4
        refine hK.out _ _ ?_ (fun hH => ?_)
        · exact ⟨pl, pm⟩
        clear hK K
        generalize World.setCell _ _ _ = Wn at p4 p5 pl pm md5 hH ⊢
        rename World => Wc
        refine tkH ?_ 5 hH ?_ ?_; rotate_left
        · intro W' hS; go_simp; with_reducible rfl
        simp only [tkr]
        refine tkH ?_ 6 hH ?_ ?_; rotate_left
        · intro W' hS; go_simp; with_reducible rfl
        simp only [tkr]
        refine wpAnyH_done (by kernel_rfl) ?_ _
        refine NoPanic.normal ?_
        clear l0 l1 l2 l3
        obtain ⟨r0, r1, _, _⟩ := p4.all
        obtain ⟨s0, s1, _, _⟩ := p5.all
        go_wp2_with fail
        refine bodyPost_ret (v := .tuple #[land b bh, .agg #[.int .i64 (L.length : Int), .int .i64 (root : Int)], u12, .bool false]) (by simp [results, Tryz.results24, go_sem, r0, r1, s0, s1]) rfl ?_
        refine ⟨b, bh, root, M, F, L, _, by rw [HNO.out], ⟨j, by have := HJ.out.2.1; have := HN.out; omega, md5⟩, fun h => by rw [HNO.out] at h; cases h⟩
      · have s1 := right_small hkr
        by_cases h60 : (60 : Int) < (k.2.2.size : Int)
        · have HNO := Lib.hid (show l.all okB = false from by rw [List.all_eq_false]; exact ⟨k, List.mem_of_getElem? HJ.out.2.2, by unfold okB; rw [hkr, decide_eq_false (fun h => by omega)]; decide⟩)
          obtain ⟨c0, c1, c2, d0, d1, d2⟩ := KB8.out.1.all
          go_upto_region 9 with fail
          clear c0 c1 c2 d0 d1 d2
          refine wp_region_noPanic ?_
          refine wp_region_held_drew (S := fun W' => C2 W' z10 26 (ap b) (.pointer (some ⟨bh, 0, none⟩)) ∧ C2 W' z11 30 (.int .i64 (L.length : Int)) (.int .i64 (root : Int))) (by kernel_rfl) (show _ ∧ _ from ⟨MX8.out.cl.below (Below.refl _ _).drew, MX8.out.cm.below (Below.refl _ _).drew⟩) (fun hH => ?_)
          have l0 : ∀ W', (C2 W' z10 26 (ap b) (.pointer (some ⟨bh, 0, none⟩)) ∧ C2 W' z11 30 (.int .i64 (L.length : Int)) (.int .i64 (root : Int))) → W'.cell? ⟨z10, 0, none⟩ = some (ap b) := fun W' h => h.1.c0
          have l1 : ∀ W', (C2 W' z10 26 (ap b) (.pointer (some ⟨bh, 0, none⟩)) ∧ C2 W' z11 30 (.int .i64 (L.length : Int)) (.int .i64 (root : Int))) → W'.cell? ⟨z10, 1, none⟩ = some (.pointer (some ⟨bh, 0, none⟩)) := fun W' h => h.1.c1
          have l2 : ∀ W', (C2 W' z10 26 (ap b) (.pointer (some ⟨bh, 0, none⟩)) ∧ C2 W' z11 30 (.int .i64 (L.length : Int)) (.int .i64 (root : Int))) → W'.cell? ⟨z11, 0, none⟩ = some (.int .i64 (L.length : Int)) := fun W' h => h.2.c0
          have l3 : ∀ W', (C2 W' z10 26 (ap b) (.pointer (some ⟨bh, 0, none⟩)) ∧ C2 W' z11 30 (.int .i64 (L.length : Int)) (.int .i64 (root : Int))) → W'.cell? ⟨z11, 1, none⟩ = some (.int .i64 (root : Int)) := fun W' h => h.2.c1
          have mq := And.intro (MD8.out.below (Below.refl _ _).drew) (MX8.out.below (Below.refl _ _).drew)
          generalize World.drew _ = Wc at mq hH ⊢
          obtain ⟨hmd, hmx⟩ := mq
          refine tkH ?_ 0 hH ?_ ?_; rotate_left
          · intro W' hS; go_simp; with_reducible rfl
          simp only [tkr]
          refine tkH ?_ 1 hH ?_ ?_; rotate_left
          · intro W' hS; go_simp; with_reducible rfl
          simp only [tkr]
          refine tkH ?_ 2 hH ?_ ?_; rotate_left
          · intro W' hS; go_simp; with_reducible rfl
          simp only [tkr]
          refine rdH 3 rfl (fun K hK => ?_)
          have hq4 := hmx.c4
          obtain ⟨r0, r1, g0, g1⟩ := hq4.all
          go_simp
          clear r0 r1 g0 g1
          have kz := Kp.two Wc z4 (ap b) (.pointer (some ⟨bh, 0, none⟩))
          have q4 := (hq4.set0 (ap b)).set1 (.pointer (some ⟨bh, 0, none⟩))
          have q5 := hmx.c5.kp kz (fun e => by have := hmx.ne; omega)
          have ql := hmx.cl.kp kz (fun e => by have := hmx.ne; omega)
          have qm := hmx.cm.kp kz (fun e => by have := hmx.ne; omega)
          have md4 := hmd.kp kz (fun q e => by rw [e]; exact ⟨hmx.a4.1, hmx.a4.2.1, hmx.a4.2.2.1, hmd.two hq4 (by decide)⟩)
          have a5 := And.intro (And.intro hmx.a5.1 (And.intro hmx.a5.2.1 hmx.a5.2.2.1)) hmx.ne.1
          clear hq4 kz hmx hmd
          refine hK.out _ _ ?_ (fun hH => ?_)
          · exact ⟨ql, qm⟩
          clear hK K
          generalize World.setCell _ _ _ = Wn at q4 q5 ql qm md4 hH ⊢
          rename World => Wc
          refine rdH 4 rfl (fun K hK => ?_)
          obtain ⟨r0, r1, g0, g1⟩ := q5.all
          go_simp
          clear r0 r1 g0 g1
          have kz := Kp.two Wc z5 (.int .i64 (L.length : Int)) (.int .i64 (root : Int))
          have p5 := (q5.set0 (.int .i64 (L.length : Int))).set1 (.int .i64 (root : Int))
          have p4 := q4.kp kz (fun e => by have := a5.2; omega)
          have pl := ql.kp kz (fun e => ne10 e)
          have pm := qm.kp kz (fun e => ne11 e)
          have md5 := md4.kp kz (fun q e => by rw [e]; exact ⟨a5.1.1, a5.1.2.1, a5.1.2.2, md4.two q5 (by decide)⟩)
          clear q4 q5 ql qm kz md4
          refine hK.out _ _ ?_ (fun hH => ?_)
          · exact ⟨pl, pm⟩
          clear hK K
          generalize World.setCell _ _ _ = Wn at p4 p5 pl pm md5 hH ⊢
          rename World => Wc
          refine tkH ?_ 5 hH ?_ ?_; rotate_left
          · intro W' hS; go_simp; with_reducible rfl
          simp only [tkr]
          refine tkH ?_ 6 hH ?_ ?_; rotate_left
          · intro W' hS; go_simp; with_reducible rfl
          simp only [tkr]
          refine wpAnyH_done (by kernel_rfl) ?_ _
          refine NoPanic.normal ?_
          clear l0 l1 l2 l3
          obtain ⟨r0, r1, _, _⟩ := p4.all
          obtain ⟨s0, s1, _, _⟩ := p5.all
          go_wp2_with fail
          refine bodyPost_ret (v := .tuple #[land b bh, .agg #[.int .i64 (L.length : Int), .int .i64 (root : Int)], u12, .bool false]) (by simp [results, Tryz.results24, go_sem, r0, r1, s0, s1]) rfl ?_
          refine ⟨b, bh, root, M, F, L, _, by rw [HNO.out], ⟨j, by have := HJ.out.2.1; have := HN.out; omega, md5⟩, fun h => by rw [HNO.out] at h; cases h⟩
        · have HYES := Lib.hid (show okB k = true from by unfold okB; rw [hkr, decide_eq_true (by omega), Bool.true_and])
          have MDK := Lib.hid (And.intro MD8.out.keys MD8.out.len)
          have HOK := Lib.hid (show OkK k from ⟨HKB.out.1, HKB.out.2, by omega⟩)
          obtain ⟨c0, c1, c2, d0, d1, d2⟩ := KB8.out.1.all
          go_upto_region 10 with fail
          clear c0 c1 c2 d0 d1 d2 hkr s1 h60
          go_cut [15, 16] from 45 to 53 (fun s15 s16 wd => ∃ (zx n' : Nat) (M' : Cells) (F' : Nat → Prop), s15 = .pointer (some ⟨zx, 0, none⟩) ∧ s16 = .int .i64 0 ∧ Md w b bh seed hs (j + 1) n' M' F' (putL hs (k, (2, (j : Int), ⟨#[]⟩)) L) L u12 wd ∧ Mx w b bh z4 z5 z10 z11 L.length root F' wd ∧ C2 wd zx 30 (.int .i64 ((putL hs (k, (2, (j : Int), ⟨#[]⟩)) L).length : Int)) (.int .i64 (n' : Int)) ∧ C3 wd z14 36 (.int .u8 k.1) (.int .i64 k.2.1) (.string k.2.2) ∧ z11 < zx)
          case first =>
            refine wp_region_noPanic ?_
            refine wp_region_held_drew (S := fun W' => C2 W' z10 26 (ap b) (.pointer (some ⟨bh, 0, none⟩)) ∧ C2 W' z11 30 (.int .i64 (L.length : Int)) (.int .i64 (root : Int)) ∧ C3 W' z14 36 (.int .u8 k.1) (.int .i64 k.2.1) (.string k.2.2)) (by kernel_rfl) (show _ ∧ _ ∧ _ from ⟨MX8.out.cl.below (Below.refl _ _).drew, MX8.out.cm.below (Below.refl _ _).drew, KB8.out.1.below (Below.refl _ _).drew⟩) (fun hH => ?_)
            have l0 : ∀ W', (C2 W' z10 26 (ap b) (.pointer (some ⟨bh, 0, none⟩)) ∧ C2 W' z11 30 (.int .i64 (L.length : Int)) (.int .i64 (root : Int)) ∧ C3 W' z14 36 (.int .u8 k.1) (.int .i64 k.2.1) (.string k.2.2)) → W'.cell? ⟨z10, 0, none⟩ = some (ap b) := fun W' h => h.1.c0
            have l1 : ∀ W', (C2 W' z10 26 (ap b) (.pointer (some ⟨bh, 0, none⟩)) ∧ C2 W' z11 30 (.int .i64 (L.length : Int)) (.int .i64 (root : Int)) ∧ C3 W' z14 36 (.int .u8 k.1) (.int .i64 k.2.1) (.string k.2.2)) → W'.cell? ⟨z10, 1, none⟩ = some (.pointer (some ⟨bh, 0, none⟩)) := fun W' h => h.1.c1
            have l2 : ∀ W', (C2 W' z10 26 (ap b) (.pointer (some ⟨bh, 0, none⟩)) ∧ C2 W' z11 30 (.int .i64 (L.length : Int)) (.int .i64 (root : Int)) ∧ C3 W' z14 36 (.int .u8 k.1) (.int .i64 k.2.1) (.string k.2.2)) → W'.cell? ⟨z11, 0, none⟩ = some (.int .i64 (L.length : Int)) := fun W' h => h.2.1.c0
            have l3 : ∀ W', (C2 W' z10 26 (ap b) (.pointer (some ⟨bh, 0, none⟩)) ∧ C2 W' z11 30 (.int .i64 (L.length : Int)) (.int .i64 (root : Int)) ∧ C3 W' z14 36 (.int .u8 k.1) (.int .i64 k.2.1) (.string k.2.2)) → W'.cell? ⟨z11, 1, none⟩ = some (.int .i64 (root : Int)) := fun W' h => h.2.1.c1
            have l4 : ∀ W', (C2 W' z10 26 (ap b) (.pointer (some ⟨bh, 0, none⟩)) ∧ C2 W' z11 30 (.int .i64 (L.length : Int)) (.int .i64 (root : Int)) ∧ C3 W' z14 36 (.int .u8 k.1) (.int .i64 k.2.1) (.string k.2.2)) → W'.cell? ⟨z14, 0, none⟩ = some (.int .u8 k.1) := fun W' h => h.2.2.c0
            have l5 : ∀ W', (C2 W' z10 26 (ap b) (.pointer (some ⟨bh, 0, none⟩)) ∧ C2 W' z11 30 (.int .i64 (L.length : Int)) (.int .i64 (root : Int)) ∧ C3 W' z14 36 (.int .u8 k.1) (.int .i64 k.2.1) (.string k.2.2)) → W'.cell? ⟨z14, 1, none⟩ = some (.int .i64 k.2.1) := fun W' h => h.2.2.c1
            have l6 : ∀ W', (C2 W' z10 26 (ap b) (.pointer (some ⟨bh, 0, none⟩)) ∧ C2 W' z11 30 (.int .i64 (L.length : Int)) (.int .i64 (root : Int)) ∧ C3 W' z14 36 (.int .u8 k.1) (.int .i64 k.2.1) (.string k.2.2)) → W'.cell? ⟨z14, 2, none⟩ = some (.string k.2.2) := fun W' h => h.2.2.c2
            have mq := And.intro (MD8.out.below (Below.refl _ _).drew) (And.intro (MX8.out.below (Below.refl _ _).drew) (And.intro (KB8.out.1.below (Below.refl _ _).drew) (KB8.out.2.size (Below.refl 0 w9).drew.size)))
            generalize World.drew _ = Wc at mq hH ⊢
            obtain ⟨hmd, hmx, kb, ak⟩ := mq
            refine tkH ?_ 0 hH ?_ ?_; rotate_left
            · intro W' hS; go_simp; with_reducible rfl
            simp only [tkr]
            refine tkH ?_ 1 hH ?_ ?_; rotate_left
            · intro W' hS; go_simp; with_reducible rfl
            simp only [tkr]
            refine tkH ?_ 2 hH ?_ ?_; rotate_left
            · intro W' hS; go_simp; with_reducible rfl
            simp only [tkr]
            refine tkH ?_ 3 hH ?_ ?_; rotate_left
            · intro W' hS; go_simp; with_reducible rfl
            simp only [tkr]
            refine wpAnyH_ready (rs := [4, 9]) (by kernel_rfl) (by simp) ?_
            refine AllReadyH.cons rfl (fun K hK => ?_) (AllReadyH.cons rfl (fun K hK => ?_) (AllReadyH.nil))
            · go_simp
              refine (lnumber (j : Int) Wc).mono ?_
              rintro e Wc ⟨rfl, hb9⟩
              replace hmd := hmd.below hb9
              replace hmx := hmx.below hb9
              replace kb := kb.below hb9
              replace ak := ak.size hb9.size
              try replace bx := bx.below hb9
              try replace ax := ax.size hb9.size
              clear hb9
              simp only
              refine hK.out _ _ ?_ (fun hH => ?_)
              · exact ⟨hmx.cl, hmx.cm, kb⟩
              clear hK K
              refine wpAnyH_ready (rs := [5, 9]) (by kernel_rfl) (by simp) ?_
              refine AllReadyH.cons rfl (fun K hK => ?_) (AllReadyH.cons rfl (fun K hK => ?_) (AllReadyH.nil))
              · go_simp
                refine (hmd.put (by have := HJ.out.2.1; have := HN.out; omega) HHS.out k (2, (j : Int), ⟨#[]⟩) HOK.out).mono ?_
                rintro e Wc ⟨n', M', rfl, md', kp⟩
                replace hmx := hmx.put kp
                replace kb := kb.kp kp (fun hq => hq.elim ak.2.1 ak.2.2.1)
                replace ak := ak.put kp.size
                try replace bx := bx.kp kp (fun hq => hq.elim ax.2.1 ax.2.2.1)
                try replace ax := ax.put kp.size
                replace hmd := md'
                clear kp md'
                simp only
                refine hK.out _ _ ?_ (fun hH => ?_)
                · exact ⟨hmx.cl, hmx.cm, kb⟩
                clear hK K
                refine tkH ?_ 6 hH ?_ ?_; rotate_left
                · intro W' hS; go_simp; with_reducible rfl
                simp only [tkr]
                refine tkH ?_ 7 hH ?_ ?_; rotate_left
                · intro W' hS; go_simp; with_reducible rfl
                simp only [tkr]
                refine tkH ?_ 8 hH ?_ ?_; rotate_left
                · intro W' hS; go_simp; with_reducible rfl
                simp only [tkr]
                refine rdH 9 rfl (fun K hK => ?_)
                go_simp
                have bx := C2.new Wc 30 (.int .i64 0) (.int .i64 0)
                have ax := hmd.ap (W' := Wc.alloc (.cells #[.int .i64 0, .int .i64 0] 30)) rfl (by simp)
                have nx := And.intro hmx.a4.2.2.2 (And.intro hmx.a5.2.2.2 (And.intro hmx.al.2.2.2 (And.intro hmx.am.2.2.2 ak.2.2.2)))
                replace hmd := hmd.below ((Below.refl _ Wc).alloc (Nat.le_refl _) (.cells #[.int .i64 0, .int .i64 0] 30))
                replace hmx := hmx.below ((Below.refl _ Wc).alloc (Nat.le_refl _) (.cells #[.int .i64 0, .int .i64 0] 30))
                replace kb := kb.below ((Below.refl _ Wc).alloc (Nat.le_refl _) (.cells #[.int .i64 0, .int .i64 0] 30))
                replace ak := ak.size ((Below.refl _ Wc).alloc (Nat.le_refl _) (.cells #[.int .i64 0, .int .i64 0] 30)).size
                refine hK.out _ _ ?_ (fun hH => ?_)
                · exact ⟨hmx.cl, hmx.cm, kb⟩
                clear hK K
                generalize World.alloc _ _ = Wn at hmd hmx kb ak bx ax hH ⊢
                generalize Wc.heap.size = zx at bx ax nx ⊢
                rename World => Wc
                refine rdH 10 rfl (fun K hK => ?_)
                obtain ⟨r0, r1, g0, g1⟩ := bx.all
                go_simp
                clear r0 r1 g0 g1
                have kz := Kp.two Wc zx (.int .i64 ((putL hs (k, (2, (j : Int), ⟨#[]⟩)) L).length : Int)) (.int .i64 (n' : Int))
                have md' := hmd.box ax bx (by decide) (.int .i64 ((putL hs (k, (2, (j : Int), ⟨#[]⟩)) L).length : Int)) (.int .i64 (n' : Int))
                have mx' := hmx.kp kz (fun q e => by rw [e]; exact ⟨by omega, by omega, by omega, by omega⟩)
                have kb' := kb.kp kz (fun e => by omega)
                have px := (bx.set0 (.int .i64 ((putL hs (k, (2, (j : Int), ⟨#[]⟩)) L).length : Int))).set1 (.int .i64 (n' : Int))
                have ax' := ax.size kz.size
                have ak' := ak.size kz.size
                clear kz hmd hmx kb bx ax ak
                refine hK.out _ _ ?_ (fun hH => ?_)
                · exact ⟨mx'.cl, mx'.cm, kb'⟩
                clear hK K
                generalize World.setCell _ _ _ = Wn at md' mx' kb' px ax' ak' hH ⊢
                rename World => Wc
                refine tkH ?_ 11 hH ?_ ?_; rotate_left
                · intro W' hS; go_simp; with_reducible rfl
                simp only [tkr]
                refine wpAnyH_done (by kernel_rfl) ?_ _
                refine NoPanic.normal ?_
                clear l0 l1 l2 l3 l4 l5 l6
                go_wp2_with fail
                go_meet
                exact ⟨_, n', M', _, rfl, rfl, md', mx', px, kb', by omega⟩
              · go_simp
                have bx := C2.new Wc 30 (.int .i64 0) (.int .i64 0)
                have ax := hmd.ap (W' := Wc.alloc (.cells #[.int .i64 0, .int .i64 0] 30)) rfl (by simp)
                have nx := And.intro hmx.a4.2.2.2 (And.intro hmx.a5.2.2.2 (And.intro hmx.al.2.2.2 (And.intro hmx.am.2.2.2 ak.2.2.2)))
                replace hmd := hmd.below ((Below.refl _ Wc).alloc (Nat.le_refl _) (.cells #[.int .i64 0, .int .i64 0] 30))
                replace hmx := hmx.below ((Below.refl _ Wc).alloc (Nat.le_refl _) (.cells #[.int .i64 0, .int .i64 0] 30))
                replace kb := kb.below ((Below.refl _ Wc).alloc (Nat.le_refl _) (.cells #[.int .i64 0, .int .i64 0] 30))
                replace ak := ak.size ((Below.refl _ Wc).alloc (Nat.le_refl _) (.cells #[.int .i64 0, .int .i64 0] 30)).size
                refine hK.out _ _ ?_ (fun hH => ?_)
                · exact ⟨hmx.cl, hmx.cm, kb⟩
                clear hK K
                generalize World.alloc _ _ = Wn at hmd hmx kb ak bx ax hH ⊢
                generalize Wc.heap.size = zx at bx ax nx ⊢
                rename World => Wc
                refine rdH 5 rfl (fun K hK => ?_)
                go_simp
                refine (hmd.put (by have := HJ.out.2.1; have := HN.out; omega) HHS.out k (2, (j : Int), ⟨#[]⟩) HOK.out).mono ?_
                rintro e Wc ⟨n', M', rfl, md', kp⟩
                replace hmx := hmx.put kp
                replace kb := kb.kp kp (fun hq => hq.elim ak.2.1 ak.2.2.1)
                replace ak := ak.put kp.size
                try replace bx := bx.kp kp (fun hq => hq.elim ax.2.1 ax.2.2.1)
                try replace ax := ax.put kp.size
                replace hmd := md'
                clear kp md'
                simp only
                refine hK.out _ _ ?_ (fun hH => ?_)
                · exact ⟨hmx.cl, hmx.cm, kb⟩
                clear hK K
                refine tkH ?_ 6 hH ?_ ?_; rotate_left
                · intro W' hS; go_simp; with_reducible rfl
                simp only [tkr]
                refine tkH ?_ 7 hH ?_ ?_; rotate_left
                · intro W' hS; go_simp; with_reducible rfl
                simp only [tkr]
                refine tkH ?_ 8 hH ?_ ?_; rotate_left
                · intro W' hS; go_simp; with_reducible rfl
                simp only [tkr]
                refine rdH 10 rfl (fun K hK => ?_)
                obtain ⟨r0, r1, g0, g1⟩ := bx.all
                go_simp
                clear r0 r1 g0 g1
                have kz := Kp.two Wc zx (.int .i64 ((putL hs (k, (2, (j : Int), ⟨#[]⟩)) L).length : Int)) (.int .i64 (n' : Int))
                have md' := hmd.box ax bx (by decide) (.int .i64 ((putL hs (k, (2, (j : Int), ⟨#[]⟩)) L).length : Int)) (.int .i64 (n' : Int))
                have mx' := hmx.kp kz (fun q e => by rw [e]; exact ⟨by omega, by omega, by omega, by omega⟩)
                have kb' := kb.kp kz (fun e => by omega)
                have px := (bx.set0 (.int .i64 ((putL hs (k, (2, (j : Int), ⟨#[]⟩)) L).length : Int))).set1 (.int .i64 (n' : Int))
                have ax' := ax.size kz.size
                have ak' := ak.size kz.size
                clear kz hmd hmx kb bx ax ak
                refine hK.out _ _ ?_ (fun hH => ?_)
                · exact ⟨mx'.cl, mx'.cm, kb'⟩
                clear hK K
                generalize World.setCell _ _ _ = Wn at md' mx' kb' px ax' ak' hH ⊢
                rename World => Wc
                refine tkH ?_ 11 hH ?_ ?_; rotate_left
                · intro W' hS; go_simp; with_reducible rfl
                simp only [tkr]
                refine wpAnyH_done (by kernel_rfl) ?_ _
                refine NoPanic.normal ?_
                clear l0 l1 l2 l3 l4 l5 l6
                go_wp2_with fail
                go_meet
                exact ⟨_, n', M', _, rfl, rfl, md', mx', px, kb', by omega⟩
            · go_simp
              have bx := C2.new Wc 30 (.int .i64 0) (.int .i64 0)
              have ax := hmd.ap (W' := Wc.alloc (.cells #[.int .i64 0, .int .i64 0] 30)) rfl (by simp)
              have nx := And.intro hmx.a4.2.2.2 (And.intro hmx.a5.2.2.2 (And.intro hmx.al.2.2.2 (And.intro hmx.am.2.2.2 ak.2.2.2)))
              replace hmd := hmd.below ((Below.refl _ Wc).alloc (Nat.le_refl _) (.cells #[.int .i64 0, .int .i64 0] 30))
              replace hmx := hmx.below ((Below.refl _ Wc).alloc (Nat.le_refl _) (.cells #[.int .i64 0, .int .i64 0] 30))
              replace kb := kb.below ((Below.refl _ Wc).alloc (Nat.le_refl _) (.cells #[.int .i64 0, .int .i64 0] 30))
              replace ak := ak.size ((Below.refl _ Wc).alloc (Nat.le_refl _) (.cells #[.int .i64 0, .int .i64 0] 30)).size
              refine hK.out _ _ ?_ (fun hH => ?_)
              · exact ⟨hmx.cl, hmx.cm, kb⟩
              clear hK K
              generalize World.alloc _ _ = Wn at hmd hmx kb ak bx ax hH ⊢
              generalize Wc.heap.size = zx at bx ax nx ⊢
              rename World => Wc
              refine rdH 4 rfl (fun K hK => ?_)
              go_simp
              refine (lnumber (j : Int) Wc).mono ?_
              rintro e Wc ⟨rfl, hb9⟩
              replace hmd := hmd.below hb9
              replace hmx := hmx.below hb9
              replace kb := kb.below hb9
              replace ak := ak.size hb9.size
              try replace bx := bx.below hb9
              try replace ax := ax.size hb9.size
              clear hb9
              simp only
              refine hK.out _ _ ?_ (fun hH => ?_)
              · exact ⟨hmx.cl, hmx.cm, kb⟩
              clear hK K
              refine rdH 5 rfl (fun K hK => ?_)
              go_simp
              refine (hmd.put (by have := HJ.out.2.1; have := HN.out; omega) HHS.out k (2, (j : Int), ⟨#[]⟩) HOK.out).mono ?_
              rintro e Wc ⟨n', M', rfl, md', kp⟩
              replace hmx := hmx.put kp
              replace kb := kb.kp kp (fun hq => hq.elim ak.2.1 ak.2.2.1)
              replace ak := ak.put kp.size
              try replace bx := bx.kp kp (fun hq => hq.elim ax.2.1 ax.2.2.1)
              try replace ax := ax.put kp.size
              replace hmd := md'
              clear kp md'
              simp only
              refine hK.out _ _ ?_ (fun hH => ?_)
              · exact ⟨hmx.cl, hmx.cm, kb⟩
              clear hK K
              refine tkH ?_ 6 hH ?_ ?_; rotate_left
              · intro W' hS; go_simp; with_reducible rfl
              simp only [tkr]
              refine tkH ?_ 7 hH ?_ ?_; rotate_left
              · intro W' hS; go_simp; with_reducible rfl
              simp only [tkr]
              refine tkH ?_ 8 hH ?_ ?_; rotate_left
              · intro W' hS; go_simp; with_reducible rfl
              simp only [tkr]
              refine rdH 10 rfl (fun K hK => ?_)
              obtain ⟨r0, r1, g0, g1⟩ := bx.all
              go_simp
              clear r0 r1 g0 g1
              have kz := Kp.two Wc zx (.int .i64 ((putL hs (k, (2, (j : Int), ⟨#[]⟩)) L).length : Int)) (.int .i64 (n' : Int))
              have md' := hmd.box ax bx (by decide) (.int .i64 ((putL hs (k, (2, (j : Int), ⟨#[]⟩)) L).length : Int)) (.int .i64 (n' : Int))
              have mx' := hmx.kp kz (fun q e => by rw [e]; exact ⟨by omega, by omega, by omega, by omega⟩)
              have kb' := kb.kp kz (fun e => by omega)
              have px := (bx.set0 (.int .i64 ((putL hs (k, (2, (j : Int), ⟨#[]⟩)) L).length : Int))).set1 (.int .i64 (n' : Int))
              have ax' := ax.size kz.size
              have ak' := ak.size kz.size
              clear kz hmd hmx kb bx ax ak
              refine hK.out _ _ ?_ (fun hH => ?_)
              · exact ⟨mx'.cl, mx'.cm, kb'⟩
              clear hK K
              generalize World.setCell _ _ _ = Wn at md' mx' kb' px ax' ak' hH ⊢
              rename World => Wc
              refine tkH ?_ 11 hH ?_ ?_; rotate_left
              · intro W' hS; go_simp; with_reducible rfl
              simp only [tkr]
              refine wpAnyH_done (by kernel_rfl) ?_ _
              refine NoPanic.normal ?_
              clear l0 l1 l2 l3 l4 l5 l6
              go_wp2_with fail
              go_meet
              exact ⟨_, n', M', _, rfl, rfl, md', mx', px, kb', by omega⟩
          case rest =>
            obtain ⟨zx, n', M', F', rfl, rfl, md', mx', px, kb', hzx⟩ := hcut
            have MD9 := Lib.hid (And.intro md' (And.intro MDK.out.1 MDK.out.2))
            have MX9 := Lib.hid mx'
            have BX9 := Lib.hid (And.intro px (And.intro kb' hzx))
            clear md' mx' px kb' hzx MD8 MX8 KB8
            go_upto_region 13 with fail
            refine wp_region_noPanic ?_
            refine wp_region_held_drew (S := fun W' => C2 W' zx 30 (.int .i64 ((putL hs (k, (2, (j : Int), ⟨#[]⟩)) L).length : Int)) (.int .i64 (n' : Int)) ∧ C3 W' z14 36 (.int .u8 k.1) (.int .i64 k.2.1) (.string k.2.2)) (by kernel_rfl) (show _ ∧ _ from ⟨BX9.out.1.below (Below.refl _ _).drew, BX9.out.2.1.below (Below.refl _ _).drew⟩) (fun hH => ?_)
            have l0 : ∀ W', (C2 W' zx 30 (.int .i64 ((putL hs (k, (2, (j : Int), ⟨#[]⟩)) L).length : Int)) (.int .i64 (n' : Int)) ∧ C3 W' z14 36 (.int .u8 k.1) (.int .i64 k.2.1) (.string k.2.2)) → W'.cell? ⟨zx, 0, none⟩ = some (.int .i64 ((putL hs (k, (2, (j : Int), ⟨#[]⟩)) L).length : Int)) := fun W' h => h.1.c0
            have l1 : ∀ W', (C2 W' zx 30 (.int .i64 ((putL hs (k, (2, (j : Int), ⟨#[]⟩)) L).length : Int)) (.int .i64 (n' : Int)) ∧ C3 W' z14 36 (.int .u8 k.1) (.int .i64 k.2.1) (.string k.2.2)) → W'.cell? ⟨zx, 1, none⟩ = some (.int .i64 (n' : Int)) := fun W' h => h.1.c1
            have l2 : ∀ W', (C2 W' zx 30 (.int .i64 ((putL hs (k, (2, (j : Int), ⟨#[]⟩)) L).length : Int)) (.int .i64 (n' : Int)) ∧ C3 W' z14 36 (.int .u8 k.1) (.int .i64 k.2.1) (.string k.2.2)) → W'.cell? ⟨z14, 0, none⟩ = some (.int .u8 k.1) := fun W' h => h.2.c0
            have l3 : ∀ W', (C2 W' zx 30 (.int .i64 ((putL hs (k, (2, (j : Int), ⟨#[]⟩)) L).length : Int)) (.int .i64 (n' : Int)) ∧ C3 W' z14 36 (.int .u8 k.1) (.int .i64 k.2.1) (.string k.2.2)) → W'.cell? ⟨z14, 1, none⟩ = some (.int .i64 k.2.1) := fun W' h => h.2.c1
            have l4 : ∀ W', (C2 W' zx 30 (.int .i64 ((putL hs (k, (2, (j : Int), ⟨#[]⟩)) L).length : Int)) (.int .i64 (n' : Int)) ∧ C3 W' z14 36 (.int .u8 k.1) (.int .i64 k.2.1) (.string k.2.2)) → W'.cell? ⟨z14, 2, none⟩ = some (.string k.2.2) := fun W' h => h.2.c2
            have mq := And.intro (MD9.out.1.below (Below.refl _ _).drew) (And.intro (MX9.out.below (Below.refl _ _).drew) hH)
            generalize World.drew _ = Wc at mq hH ⊢
            obtain ⟨hmd, hmx, bx, kb⟩ := mq
            refine tkH ?_ 0 hH ?_ ?_; rotate_left
            · intro W' hS; go_simp; with_reducible rfl
            simp only [tkr]
            refine tkH ?_ 1 hH ?_ ?_; rotate_left
            · intro W' hS; go_simp; with_reducible rfl
            simp only [tkr]
            refine tkH ?_ 2 hH ?_ ?_; rotate_left
            · intro W' hS; go_simp; with_reducible rfl
            simp only [tkr]
            refine tkH ?_ 3 hH ?_ ?_; rotate_left
            · intro W' hS; go_simp; with_reducible rfl
            simp only [tkr]
            refine tkH ?_ 5 hH ?_ ?_; rotate_left
            · intro W' hS; go_simp; with_reducible rfl
            simp only [tkr]
            refine tkH ?_ 6 hH ?_ ?_; rotate_left
            · intro W' hS; go_simp; with_reducible rfl
            simp only [tkr]
            refine rdH 4 rfl (fun K hK => ?_)
            go_simp
            refine (lof9 k Wc).mono ?_
            rintro e Wc ⟨rfl, hb9⟩
            replace hmd := hmd.below hb9
            replace hmx := hmx.below hb9
            replace kb := kb.below hb9
            replace bx := bx.below hb9
            clear hb9
            simp only
            refine hK.out _ _ ?_ (fun hH => ?_)
            · exact ⟨bx, kb⟩
            clear hK K
            refine tkH ?_ 7 hH ?_ ?_; rotate_left
            · intro W' hS; go_simp; with_reducible rfl
            simp only [tkr]
            refine rdH 8 rfl (fun K hK => ?_)
            go_simp
            refine (rput hs seed w.heap.size u12 (k, (2, (j : Int), ⟨#[]⟩)) L Wc (by have := MD9.out.2.2; have := HJ.out.2.1; have := HN.out; omega) ⟨HOK.out, HHS.out k HOK.out⟩ MD9.out.2.1 hmd.own).mono ?_
            rintro e Wc ⟨y, rfl, hown, hb9⟩
            replace hmd := hmd.next hown hb9
            replace hmx := hmx.below hb9
            replace kb := kb.below hb9
            replace bx := bx.below hb9
            clear hb9 hown
            simp only
            refine hK.out _ _ ?_ (fun hH => ?_)
            · exact ⟨bx, kb⟩
            clear hK K
            refine rdH 9 rfl (fun K hK => ?_)
            obtain ⟨r0, r1, g0, g1⟩ := hmx.cm.all
            go_simp
            clear r0 r1 g0 g1
            have nx := BX9.out.2.2
            have kz := Kp.two Wc z11 (.int .i64 ((putL hs (k, (2, (j : Int), ⟨#[]⟩)) L).length : Int)) (.int .i64 (n' : Int))
            have md' := hmd.box hmx.am hmx.cm (by decide) (.int .i64 ((putL hs (k, (2, (j : Int), ⟨#[]⟩)) L).length : Int)) (.int .i64 (n' : Int))
            have mx' := hmx.store (putL hs (k, (2, (j : Int), ⟨#[]⟩)) L).length n'
            have kb' := kb.kp kz (fun e => own_c3 kb hmx.cm (by decide) e)
            have px := bx.kp kz (fun e => by omega)
            clear kz hmd hmx kb bx nx
            refine hK.out _ _ ?_ (fun hH => ?_)
            · exact ⟨px, kb'⟩
            clear hK K
            generalize World.setCell _ _ _ = Wn at md' mx' kb' px hH ⊢
            rename World => Wc
            refine tkH ?_ 10 hH ?_ ?_; rotate_left
            · intro W' hS; go_simp; with_reducible rfl
            simp only [tkr]
            refine wpAnyH_done (by kernel_rfl) ?_ _
            refine NoPanic.normal ?_
            clear l0 l1 l2 l3 l4 MX9 BX9 kb' px
            have hjl := HJ.out
            have hmk := HMK.out
            have hyk := HYES.out
            go_wp2_with fail
            go_roundg (l.length - (j + 1))
            refine ⟨j + 1, n', M', _, putL hs (k, (2, (j : Int), ⟨#[]⟩)) L, _, by omega, ?_, rfl, md', mx', ?_, fun x hx => ?_⟩
            · rw [IntWalk.wrap64_in _ (by have := HN.out; omega)]
              rfl
            · rw [hmk.1, List.drop_eq_getElem_cons hjl.2.1, show l[j] = k from (List.getElem?_eq_some_iff.1 hjl.2.2).2]
              rfl
            · rw [List.take_add_one, hjl.2.2] at hx
              rcases List.mem_append.1 hx with h | h
              · exact hmk.2 x h
              · simp at h
                rw [h]
                exact hyk
            · have := hjl.1; have := hjl.2.1; omega
    · obtain ⟨⟩ : j = l.length := by omega
      go_upto_region 15 with fail
      refine wp_region_noPanic ?_
      refine wp_region_held_drew (S := fun W' => C2 W' z10 26 (ap b) (.pointer (some ⟨bh, 0, none⟩)) ∧ C2 W' z11 30 (.int .i64 (L.length : Int)) (.int .i64 (root : Int))) (by kernel_rfl) (show _ ∧ _ from ⟨MX.out.cl.below (Below.refl _ _).drew, MX.out.cm.below (Below.refl _ _).drew⟩) (fun hH => ?_)
      have l0 : ∀ W', (C2 W' z10 26 (ap b) (.pointer (some ⟨bh, 0, none⟩)) ∧ C2 W' z11 30 (.int .i64 (L.length : Int)) (.int .i64 (root : Int))) → W'.cell? ⟨z10, 0, none⟩ = some (ap b) := fun W' h => h.1.c0
      have l1 : ∀ W', (C2 W' z10 26 (ap b) (.pointer (some ⟨bh, 0, none⟩)) ∧ C2 W' z11 30 (.int .i64 (L.length : Int)) (.int .i64 (root : Int))) → W'.cell? ⟨z10, 1, none⟩ = some (.pointer (some ⟨bh, 0, none⟩)) := fun W' h => h.1.c1
      have l2 : ∀ W', (C2 W' z10 26 (ap b) (.pointer (some ⟨bh, 0, none⟩)) ∧ C2 W' z11 30 (.int .i64 (L.length : Int)) (.int .i64 (root : Int))) → W'.cell? ⟨z11, 0, none⟩ = some (.int .i64 (L.length : Int)) := fun W' h => h.2.c0
      have l3 : ∀ W', (C2 W' z10 26 (ap b) (.pointer (some ⟨bh, 0, none⟩)) ∧ C2 W' z11 30 (.int .i64 (L.length : Int)) (.int .i64 (root : Int))) → W'.cell? ⟨z11, 1, none⟩ = some (.int .i64 (root : Int)) := fun W' h => h.2.c1
      have mq := And.intro (MD.out.below (Below.refl _ _).drew) (MX.out.below (Below.refl _ _).drew)
      generalize World.drew _ = Wc at mq hH ⊢
      obtain ⟨hmd, hmx⟩ := mq
      refine tkH ?_ 0 hH ?_ ?_; rotate_left
      · intro W' hS; go_simp; with_reducible rfl
      simp only [tkr]
      refine tkH ?_ 1 hH ?_ ?_; rotate_left
      · intro W' hS; go_simp; with_reducible rfl
      simp only [tkr]
      refine tkH ?_ 2 hH ?_ ?_; rotate_left
      · intro W' hS; go_simp; with_reducible rfl
      simp only [tkr]
      refine rdH 3 rfl (fun K hK => ?_)
      have hq4 := hmx.c4
      obtain ⟨r0, r1, g0, g1⟩ := hq4.all
      go_simp
      clear r0 r1 g0 g1
      have kz := Kp.two Wc z4 (ap b) (.pointer (some ⟨bh, 0, none⟩))
      have q4 := (hq4.set0 (ap b)).set1 (.pointer (some ⟨bh, 0, none⟩))
      have q5 := hmx.c5.kp kz (fun e => by have := hmx.ne; omega)
      have ql := hmx.cl.kp kz (fun e => by have := hmx.ne; omega)
      have qm := hmx.cm.kp kz (fun e => by have := hmx.ne; omega)
      have md4 := hmd.kp kz (fun q e => by rw [e]; exact ⟨hmx.a4.1, hmx.a4.2.1, hmx.a4.2.2.1, hmd.two hq4 (by decide)⟩)
      have a5 := And.intro (And.intro hmx.a5.1 (And.intro hmx.a5.2.1 hmx.a5.2.2.1)) hmx.ne.1
      clear hq4 kz hmx hmd
      refine hK.out _ _ ?_ (fun hH => ?_)
      · exact ⟨ql, qm⟩
      clear hK K
      generalize World.setCell _ _ _ = Wn at q4 q5 ql qm md4 hH ⊢
      rename World => Wc
      refine rdH 4 rfl (fun K hK => ?_)
      obtain ⟨r0, r1, g0, g1⟩ := q5.all
      go_simp
      clear r0 r1 g0 g1
      have kz := Kp.two Wc z5 (.int .i64 (L.length : Int)) (.int .i64 (root : Int))
      have p5 := (q5.set0 (.int .i64 (L.length : Int))).set1 (.int .i64 (root : Int))
      have p4 := q4.kp kz (fun e => by have := a5.2; omega)
      have pl := ql.kp kz (fun e => ne10 e)
      have pm := qm.kp kz (fun e => ne11 e)
      have md5 := md4.kp kz (fun q e => by rw [e]; exact ⟨a5.1.1, a5.1.2.1, a5.1.2.2, md4.two q5 (by decide)⟩)
      clear q4 q5 ql qm kz md4
      refine hK.out _ _ ?_ (fun hH => ?_)
      · exact ⟨pl, pm⟩
      clear hK K
      generalize World.setCell _ _ _ = Wn at p4 p5 pl pm md5 hH ⊢
      rename World => Wc
      refine tkH ?_ 5 hH ?_ ?_; rotate_left
      · intro W' hS; go_simp; with_reducible rfl
      simp only [tkr]
      refine tkH ?_ 6 hH ?_ ?_; rotate_left
      · intro W' hS; go_simp; with_reducible rfl
      simp only [tkr]
      refine wpAnyH_done (by kernel_rfl) ?_ _
      refine NoPanic.normal ?_
      clear l0 l1 l2 l3
      obtain ⟨r0, r1, _, _⟩ := p4.all
      obtain ⟨s0, s1, _, _⟩ := p5.all
      go_wp2_with fail
      refine bodyPost_ret (v := .tuple #[land b bh, .agg #[.int .i64 (L.length : Int), .int .i64 (root : Int)], u12, .bool true]) (by simp [results, Tryz.results24, go_sem, r0, r1, s0, s1]) rfl ?_
      have hyes : l.all okB = true := by rw [List.all_eq_true]; intro x hx; exact HMK.out.2 x (by rw [List.take_length]; exact hx)
      refine ⟨b, bh, root, M, F, L, _, by rw [hyes], ⟨l.length, HN.out, md5⟩, fun _ => ?_⟩
      have h := HMK.out.1
      rw [List.drop_length] at h
      exact h.symm
end
end Go.Proofs.YtfiledbjbpkleaaGreat

/- Layer 4's law: an act that edits, where it may not. -/
import Derived.Test.YtndbhcdiinpkkaaDropAct04
import Derived.Test.YtndbhcdiinpkkaaEdited04
import Derived.Test.YtndbhcdiinpkkaaClone04
import Derived.Test.YtndbhcdiinpkkaaAdd04
import Derived.Deep.RegionHeldLaw
import Derived.Deep.Cut
namespace Go.Proofs.Ytndbhcdiinpkkaa
open Go.RowKit

section
variable {w0 w w' : World} {wb b rb nd most L : Nat} {vC vn vm : Value} {D D' : Nat → Dc} {K : Nat → Value} {Nm mine own : Nat → Nat} {M : Cells} {F : Nat → Prop} {B : Nat}
set_option maxRecDepth 100000 in
set_option maxHeartbeats 1600000 in
theorem act_edit_none (kd i ow p q wo : Int) (hkd : kd % 4 = 3) (k0 : 0 ≤ kd) (k255 : kd ≤ 255) (hL : L ≤ 500) (hn : nd ≤ L) (h : Law w0 w wb b rb nd most vC vn vm D K Nm mine M F) (hI : Inv nd most L D Nm mine own M) (hmk : mine (ix nd i) = 0) :
    Calls Try.prog 11 #[wp' wb, aact kd i ow p q wo] w (Acted w0 wb b rb most L) := by
  have hm : ∀ k, mine k ≤ 1000 := fun k => by have := hI.mine_le k; omega
  have n1 := h.mem.doc.n1
  have n2 := h.mem.doc.n2
  have hkl := ix_lt n1 i
  have hix := ix_run n1 n2 i
  obtain ⟨k, hk⟩ : ∃ k, k = ix nd i := ⟨_, rfl⟩
  rw [← hk] at hkl hix hmk
  clear hk
  have e0 : (kd % 4 == 0) = false := by simp; omega
  have e1 : (kd % 4 == 1) = false := by simp; omega
  have e2 : (kd % 4 == 2) = false := by simp; omega
  have HL := Lib.hid h
  have HI := Lib.hid hI
  clear h hI hkd
  go_enter Try.func11, Try.ntmps11
  go_wp2_with fail
  refine (lpair p q _ (HL.out.mem.alloc _) hm).mono ?_
  rintro e w1 ⟨x, y, hg, rfl, hb1⟩
  have hA := (C6.new w 38 (.int .u8 kd) (.int .i64 i) (.int .u32 ow) (.int .i64 p) (.int .i64 q) (.int .u32 wo)).below hb1
  have HL1 := Lib.hid ((HL.out.alloc (.cells #[.int .u8 kd, .int .i64 i, .int .u32 ow, .int .i64 p, .int .i64 q, .int .u32 wo] 38)).below hb1)
  have a0 := hA.c0
  have a1 := hA.c1
  have hal := hA.lt
  have m3 := HL1.out.mem.wd.c3
  have hwl := HL1.out.mem.wd.lt
  obtain ⟨gm, cm, hvm, hcm, hfm⟩ := HL1.out.mem.mineAt hkl
  rw [hvm] at m3
  have HGV := Lib.hid hg
  have hFz := Lib.hid (show ∀ g, F g ∨ Lw wb rb nd vC vn vm K g → g < w.heap.size from fun g hg => hg.elim (fun e => HL.out.ar.lt e) (fun e => (HL.out.mem.lt e).2))
  have hz1 : w.heap.size < w1.heap.size := by have := hb1.size; simp at this; omega
  have hw0 := Lib.hid HL.out.bel.size
  clear hb1 HL hg
  go_wp2_with fail
  go_quiet (fail)
  rw [hix]
  generalize hw2' : (w1.alloc (.cells #[.int .i64 (x : Int), .int .i64 (y : Int)] 36)).drewN nq = w2
  have L2 : Law w0 w2 wb b rb nd most vC vn vm D K Nm mine M F := hw2' ▸ (HL1.out.alloc _).below (below_drewN _ _)
  have B2 : C2 w2 w1.heap.size 36 (.int .i64 (x : Int)) (.int .i64 (y : Int)) := hw2' ▸ (C2.new w1 _ _ _).below (below_drewN _ _)
  have A2 : C6 w2 w.heap.size 38 (.int .u8 kd) (.int .i64 i) (.int .u32 ow) (.int .i64 p) (.int .i64 q) (.int .u32 wo) := hw2' ▸ (hA.alloc _).below (below_drewN _ _)
  obtain ⟨z, hz⟩ : ∃ z, z = w.heap.size := ⟨_, rfl⟩
  obtain ⟨zl, hzl⟩ : ∃ zl, zl = w1.heap.size := ⟨_, rfl⟩
  rw [← hz] at A2 hFz hz1 hw0 ⊢
  rw [← hzl] at B2 hz1 ⊢
  clear hz hzl hw2' HL1 hA a0 a1 hal m3 hwl hcm hfm hix
  have b0 := A2.c0
  have HL2 := Lib.hid L2
  clear A2 B2 hFz hw0 HGV
  have m3 := HL2.out.mem.wd.c3
  have m0 := HL2.out.mem.wd.c0
  obtain ⟨gm, cm, hvm, hcm, hfm⟩ := HL2.out.mem.mineAt hkl
  rw [hvm] at m3
  have hmk' : (mine k : Int) = 0 := by omega
  clear L2
  go_wp2_with fail
  refine (aedit_no 0 1 0 0 0 _ _ b most M F _ HL2.out.ar (fun h => by omega)).mono ?_
  rintro e w' ⟨rfl, hb⟩
  have HL3 := Lib.hid (HL2.out.below hb)
  clear hb
  go_wp2_with fail
  go_ret
  exact ⟨rfl, nd, vC, vn, vm, D, K, Nm, mine, own, M, F, by omega, HL3.out, HI.out.up⟩
set_option maxRecDepth 100000 in
set_option maxHeartbeats 4000000 in
theorem act_edit_state (kd i ow p q wo : Int) (hkd : kd % 4 = 3) (k0 : 0 ≤ kd) (k255 : kd ≤ 255) (ho1 : 0 ≤ ow) (ho2 : ow ≤ 4294967295) (hw1 : 0 ≤ wo) (hw2 : wo ≤ 4294967295) (hL : L ≤ 500) (hn : nd ≤ L) (h : Law w0 w wb b rb nd most vC vn vm D K Nm mine M F) (hI : Inv nd most L D Nm mine own M) (hmk : 1 ≤ mine (ix nd i)) (hbad : ow % 3 = 0 ∨ ow % 3 ≠ (D (ix nd i)).owner ∨ 1 < (D (ix nd i)).refs) :
    Calls Try.prog 11 #[wp' wb, aact kd i ow p q wo] w (Acted w0 wb b rb most L) := by
  have hm : ∀ k, mine k ≤ 1000 := fun k => by have := hI.mine_le k; omega
  have n1 := h.mem.doc.n1
  have n2 := h.mem.doc.n2
  have hkl := ix_lt n1 i
  have hix := ix_run n1 n2 i
  obtain ⟨k, hk⟩ : ∃ k, k = ix nd i := ⟨_, rfl⟩
  rw [← hk] at hkl hix hmk hbad
  clear hk
  have e0 : (kd % 4 == 0) = false := by simp; omega
  have e1 : (kd % 4 == 1) = false := by simp; omega
  have e2 : (kd % 4 == 2) = false := by simp; omega
  have HL := Lib.hid h
  have HI := Lib.hid hI
  clear h hI hkd
  go_enter Try.func11, Try.ntmps11
  go_wp2_with fail
  refine (lpair p q _ (HL.out.mem.alloc _) hm).mono ?_
  rintro e w1 ⟨x, y, hg, rfl, hb1⟩
  have hA := (C6.new w 38 (.int .u8 kd) (.int .i64 i) (.int .u32 ow) (.int .i64 p) (.int .i64 q) (.int .u32 wo)).below hb1
  have HL1 := Lib.hid ((HL.out.alloc (.cells #[.int .u8 kd, .int .i64 i, .int .u32 ow, .int .i64 p, .int .i64 q, .int .u32 wo] 38)).below hb1)
  have a0 := hA.c0
  have a1 := hA.c1
  have hal := hA.lt
  have m3 := HL1.out.mem.wd.c3
  have hwl := HL1.out.mem.wd.lt
  obtain ⟨gm, cm, hvm, hcm, hfm⟩ := HL1.out.mem.mineAt hkl
  rw [hvm] at m3
  have HGV := Lib.hid hg
  have hFz := Lib.hid (show ∀ g, F g ∨ Lw wb rb nd vC vn vm K g → g < w.heap.size from fun g hg => hg.elim (fun e => HL.out.ar.lt e) (fun e => (HL.out.mem.lt e).2))
  have hz1 : w.heap.size < w1.heap.size := by have := hb1.size; simp at this; omega
  have hw0 := Lib.hid HL.out.bel.size
  clear hb1 HL hg
  go_wp2_with fail
  go_quiet (fail)
  rw [hix]
  generalize hw2' : (w1.alloc (.cells #[.int .i64 (x : Int), .int .i64 (y : Int)] 36)).drewN nq = w2
  have L2 : Law w0 w2 wb b rb nd most vC vn vm D K Nm mine M F := hw2' ▸ (HL1.out.alloc _).below (below_drewN _ _)
  have B2 : C2 w2 w1.heap.size 36 (.int .i64 (x : Int)) (.int .i64 (y : Int)) := hw2' ▸ (C2.new w1 _ _ _).below (below_drewN _ _)
  have A2 : C6 w2 w.heap.size 38 (.int .u8 kd) (.int .i64 i) (.int .u32 ow) (.int .i64 p) (.int .i64 q) (.int .u32 wo) := hw2' ▸ (hA.alloc _).below (below_drewN _ _)
  obtain ⟨z, hz⟩ : ∃ z, z = w.heap.size := ⟨_, rfl⟩
  obtain ⟨zl, hzl⟩ : ∃ zl, zl = w1.heap.size := ⟨_, rfl⟩
  rw [← hz] at A2 hFz hz1 hw0 ⊢
  rw [← hzl] at B2 hz1 ⊢
  clear hz hzl hw2' HL1 hA a0 a1 hal m3 hwl hcm hfm hix
  have HBAD := Lib.hid hbad
  clear hbad
  have hmk' : ¬ (mine k : Int) = 0 := by omega
  have hmle := hm k
  obtain ⟨k2, hrk, hk0⟩ := HI.out.held (k := k) (by omega)
  obtain ⟨b0, b1, b2, b3, b4, b5, _⟩ := A2.all
  obtain ⟨l0, l1, lf0, lf1⟩ := B2.all
  have m1 := L2.mem.wd.c1
  have m3 := L2.mem.wd.c3
  have m0 := L2.mem.wd.c0
  obtain ⟨gm, cm, hvm, hcm, hfm⟩ := L2.mem.mineAt hkl
  rw [hvm] at m3
  obtain ⟨gC, cC, hvC, _⟩ := L2.mem.doc.at hkl
  have d0 := L2.mem.doc.rd.c0
  rw [hvC] at d0
  have y2 : ow.tmod 3 = ow % 3 := Int.tmod_eq_emod_of_nonneg ho1
  have y3 : (0 : Int) ≤ (k : Int) := by omega
  have y4 : (k : Int) < (nd : Int) := by omega
  have HL2 := Lib.hid L2
  have HA2 := Lib.hid A2
  have HB2 := Lib.hid B2
  have hzF : ¬ F z := fun hf => by have := hFz.out z (.inl hf); omega
  have hzlF : ¬ F zl := fun hf => by have := hFz.out zl (.inl hf); omega
  have hzL : ¬ Lw wb rb nd vC vn vm K z := fun hf => by have := hFz.out z (.inr hf); omega
  have hzlL : ¬ Lw wb rb nd vC vn vm K zl := fun hf => by have := hFz.out zl (.inr hf); omega
  have hw0' : w0.heap.size ≤ zl := by have := hw0.out; omega
  have HZ := Lib.hid (show (¬ F z ∧ ¬ F zl) ∧ ¬ Lw wb rb nd vC vn vm K z ∧ ¬ Lw wb rb nd vC vn vm K zl from ⟨⟨hzF, hzlF⟩, hzL, hzlL⟩)
  have HST := Lib.hid (show Gives nd mine 0 0 ∧ (0 : Nat) ≠ k from ⟨⟨by omega, by omega, fun h => absurd rfl h, fun h => absurd rfl h, fun _ h => absurd rfl h⟩, Ne.symm hk0⟩)
  have HZE := Lib.hid (show Law w0 ((w2.setCell ⟨zl, 0, none⟩ (.int .i64 0)).setCell ⟨zl, 1, none⟩ (.int .i64 0)) wb b rb nd most vC vn vm D K Nm mine M F ∧ C6 ((w2.setCell ⟨zl, 0, none⟩ (.int .i64 0)).setCell ⟨zl, 1, none⟩ (.int .i64 0)) z 38 (.int .u8 kd) (.int .i64 i) (.int .u32 ow) (.int .i64 p) (.int .i64 q) (.int .u32 wo) from
    ⟨L2.elsewhere (((Kp.refl (fun g => g = zl) w2).setCell (.inl rfl) _).setCell (.inl rfl) _) (fun g e => e ▸ ⟨hw0', hzlF, hzlL⟩), A2.kp (((Kp.refl (fun g => g = zl) w2).setCell (.inl rfl) _).setCell (.inl rfl) _) (by omega)⟩)
  clear L2 A2 B2 hzF hzlF hzL hzlL
  have hcase : x = k ∨ (x ≠ k ∧ y = k) ∨ (x ≠ k ∧ y ≠ k) := by omega
  rcases hcase with ex | ⟨ex, ey⟩ | ⟨ex, ey⟩
  case' inl =>
    have q1 : (x : Int) = (k : Int) := by omega
    go_wp2_with fail
    obtain ⟨w3, x', y', L3, A3, B3, G3, ne1, ne2, hw3⟩ : ∃ w3 x' y', Law w0 w3 wb b rb nd most vC vn vm D K Nm mine M F ∧ C6 w3 z 38 (.int .u8 kd) (.int .i64 i) (.int .u32 ow) (.int .i64 p) (.int .i64 q) (.int .u32 wo) ∧ C2 w3 zl 36 (.int .i64 ((x' : Nat) : Int)) (.int .i64 ((y' : Nat) : Int)) ∧ Gives nd mine x' y' ∧ x' ≠ k ∧ y' ≠ k ∧ w3 = ((w2.setCell ⟨zl, 0, none⟩ (.int .i64 0)).setCell ⟨zl, 1, none⟩ (.int .i64 0)) :=
      ⟨_, 0, 0, HZE.out.1, HZE.out.2, (HB2.out.set0 _).set1 _, HST.out.1, HST.out.2, HST.out.2, rfl⟩
    rw [← hw3]
    clear hw3 q1 ex
  case' inr.inl =>
    have q1 : ¬ (x : Int) = (k : Int) := by omega
    have q2 : (y : Int) = (k : Int) := by omega
    go_wp2_with fail
    obtain ⟨w3, x', y', L3, A3, B3, G3, ne1, ne2, hw3⟩ : ∃ w3 x' y', Law w0 w3 wb b rb nd most vC vn vm D K Nm mine M F ∧ C6 w3 z 38 (.int .u8 kd) (.int .i64 i) (.int .u32 ow) (.int .i64 p) (.int .i64 q) (.int .u32 wo) ∧ C2 w3 zl 36 (.int .i64 ((x' : Nat) : Int)) (.int .i64 ((y' : Nat) : Int)) ∧ Gives nd mine x' y' ∧ x' ≠ k ∧ y' ≠ k ∧ w3 = ((w2.setCell ⟨zl, 0, none⟩ (.int .i64 0)).setCell ⟨zl, 1, none⟩ (.int .i64 0)) :=
      ⟨_, 0, 0, HZE.out.1, HZE.out.2, (HB2.out.set0 _).set1 _, HST.out.1, HST.out.2, HST.out.2, rfl⟩
    rw [← hw3]
    clear hw3 q1 q2 ex ey
  case' inr.inr =>
    have q1 : ((x : Int) == (k : Int)) = false := by simp; omega
    have q2 : ((y : Int) == (k : Int)) = false := by simp; omega
    go_wp2_with fail
    obtain ⟨w3, x', y', L3, A3, B3, G3, ne1, ne2, hw3⟩ : ∃ w3 x' y', Law w0 w3 wb b rb nd most vC vn vm D K Nm mine M F ∧ C6 w3 z 38 (.int .u8 kd) (.int .i64 i) (.int .u32 ow) (.int .i64 p) (.int .i64 q) (.int .u32 wo) ∧ C2 w3 zl 36 (.int .i64 ((x' : Nat) : Int)) (.int .i64 ((y' : Nat) : Int)) ∧ Gives nd mine x' y' ∧ x' ≠ k ∧ y' ≠ k ∧ w3 = w2 :=
      ⟨_, x, y, HL2.out, HA2.out, HB2.out, HGV.out, ex, ey, rfl⟩
    rw [← hw3]
    clear hw3 q1 q2 ex ey
  all_goals
    have HL5 := Lib.hid (L3.below (w' := w3.drew) (Below.refl _ _).drew)
    obtain ⟨gn, cn, hvn, vcn⟩ := L3.mem.nameAt hkl
    have v2 := L3.mem.wd.c2
    have v0 := L3.mem.wd.c0
    rw [hvn] at v2
    have HG3 := Lib.hid G3
    obtain ⟨l7, hl7⟩ : ∃ l : List (Addr × Value), l = [(⟨wb, 0, none⟩, ap b), (⟨wb, 2, none⟩, .slice (some ⟨gn, 0, none⟩) nd cn), (⟨gn, k, none⟩, .int .i64 (Nm k : Int)), (⟨z, 0, none⟩, .int .u8 kd), (⟨z, 1, none⟩, .int .i64 i), (⟨z, 2, none⟩, .int .u32 ow), (⟨z, 3, none⟩, .int .i64 p), (⟨z, 4, none⟩, .int .i64 q), (⟨z, 5, none⟩, .int .u32 wo), (⟨zl, 0, none⟩, .int .i64 (x' : Int)), (⟨zl, 1, none⟩, .int .i64 (y' : Int))] := ⟨_, rfl⟩
    have HS0 := Lib.hid (show Has l7 w3.drew from fun p' hp => by
      rw [hl7] at hp
      simp at hp
      rcases hp with rfl | rfl | rfl | rfl | rfl | rfl | rfl | rfl | rfl | rfl | rfl
      · exact v0
      · exact v2
      · exact vcn
      · exact A3.c0
      · exact A3.c1
      · exact A3.c2
      · exact A3.c3
      · exact A3.c4
      · exact A3.c5
      · exact B3.c0
      · exact B3.c1)
    have HSk := Lib.hid (show ∀ W W', Has l7 W → Below W.heap.size W W' → Has l7 W' from fun W W' h hb => h.kp (Kp.of_below hb (fun _ => False)) (fun _ _ => id))
    have r0 : ∀ W, Has l7 W → W.cell? ⟨wb, 0, none⟩ = some (ap b) := fun W h => h (⟨wb, 0, none⟩, ap b) (by rw [hl7]; simp)
    have r1 : ∀ W, Has l7 W → W.cell? ⟨wb, 2, none⟩ = some (.slice (some ⟨gn, 0, none⟩) nd cn) := fun W h => h (⟨wb, 2, none⟩, .slice (some ⟨gn, 0, none⟩) nd cn) (by rw [hl7]; simp)
    have r2 : ∀ W, Has l7 W → W.cell? ⟨gn, k, none⟩ = some (.int .i64 (Nm k : Int)) := fun W h => h (⟨gn, k, none⟩, .int .i64 (Nm k : Int)) (by rw [hl7]; simp)
    have r3 : ∀ W, Has l7 W → W.cell? ⟨z, 0, none⟩ = some (.int .u8 kd) := fun W h => h (⟨z, 0, none⟩, .int .u8 kd) (by rw [hl7]; simp)
    have r4 : ∀ W, Has l7 W → W.cell? ⟨z, 1, none⟩ = some (.int .i64 i) := fun W h => h (⟨z, 1, none⟩, .int .i64 i) (by rw [hl7]; simp)
    have r5 : ∀ W, Has l7 W → W.cell? ⟨z, 2, none⟩ = some (.int .u32 ow) := fun W h => h (⟨z, 2, none⟩, .int .u32 ow) (by rw [hl7]; simp)
    have r6 : ∀ W, Has l7 W → W.cell? ⟨z, 3, none⟩ = some (.int .i64 p) := fun W h => h (⟨z, 3, none⟩, .int .i64 p) (by rw [hl7]; simp)
    have r7 : ∀ W, Has l7 W → W.cell? ⟨z, 4, none⟩ = some (.int .i64 q) := fun W h => h (⟨z, 4, none⟩, .int .i64 q) (by rw [hl7]; simp)
    have r8 : ∀ W, Has l7 W → W.cell? ⟨z, 5, none⟩ = some (.int .u32 wo) := fun W h => h (⟨z, 5, none⟩, .int .u32 wo) (by rw [hl7]; simp)
    have r9 : ∀ W, Has l7 W → W.cell? ⟨zl, 0, none⟩ = some (.int .i64 (x' : Int)) := fun W h => h (⟨zl, 0, none⟩, .int .i64 (x' : Int)) (by rw [hl7]; simp)
    have r10 : ∀ W, Has l7 W → W.cell? ⟨zl, 1, none⟩ = some (.int .i64 (y' : Int)) := fun W h => h (⟨zl, 1, none⟩, .int .i64 (y' : Int)) (by rw [hl7]; simp)
    have HA5 := Lib.hid (show C6 w3.drew z 38 (.int .u8 kd) (.int .i64 i) (.int .u32 ow) (.int .i64 p) (.int .i64 q) (.int .u32 wo) from A3)
    have HB5 := Lib.hid (show C2 w3.drew zl 36 (.int .i64 (x' : Int)) (.int .i64 (y' : Int)) from B3)
    have HM := Lib.hid (HI.out.rel.r1 k k2 hrk)
    clear hl7 L3 A3 B3 G3 v0 v2 vcn m0 m1 m3 hcm hfm d0 b0 b1 b2 b3 b4 b5 l0 l1 lf0 lf1 HL2 HA2 HB2 HZE
    go_region_held (fun W => Has l7 W)
      (first | with_reducible assumption | with_reducible exact HS0.out | (rename Has _ _ => hH; with_reducible exact HSk.out _ _ hH hby) | (rename Has _ _ => hH; with_reducible exact HSk.out _ _ hH hbz))
      (first
        | (go_at_call 38; refine (lcell kd i ow p q wo x' y' _ HL5.out.mem HG3.out.1 HG3.out.2.1 ho1 ho2 hw1 hw2).mono ?_; rintro e wy ⟨v, kv, rfl, hv, hkv, hv2, hk2, hby⟩; obtain ⟨Av, cv', rfl, _⟩ := hv.form; obtain ⟨Ak, ck, rfl, _⟩ := hkv.form; have HL6 := Lib.hid (HL5.out.below hby); clear hv hkv hv2 hk2)
        | (go_at_call 20; refine (aedit_state (Nm k) (D k).refs (ow % 3) (ow % 3) wo (nx wo) _ _ b most M F (cellOf nx Nm (D k)) _ HL6.out.ar HM.out HBAD.out).mono ?_; rintro e wz ⟨rfl, hbz⟩; have HL7 := Lib.hid (HL6.out.below hbz)))
    rename Has _ _ => hH
    clear hH r0 r1 r2 r3 r4 r5 r6 r7 r8 r9 r10 HS0 HSk hby hbz HL5 HL6 HA5 HB5
    obtain ⟨gC', cC', hvC', _, ur, uo, uw, uf⟩ := HL7.out.mem.doc.at hkl
    rw [hvC] at hvC'
    simp only [Value.slice.injEq, Option.some.injEq, Addr.mk.injEq, and_true, true_and] at hvC'
    obtain ⟨rfl, rfl⟩ := hvC'
    by_cases s1 : ow % 3 = 0
    · have s1' : (ow % 3 == 0) = true := by simp [s1]
      go_wp2_with fail
      go_ret
      exact ⟨rfl, nd, _, _, _, _, _, _, _, _, _, _, by omega, HL7.out, HI.out.up⟩
    · by_cases s2 : (D k).owner = ow % 3
      · have s3 : (1 : Int) < ((D k).refs : Int) := by
          rcases HBAD.out with e | e | e
          · exact absurd e s1
          · exact absurd s2.symm e
          · omega
        go_wp2_with fail
        go_ret
        exact ⟨rfl, nd, _, _, _, _, _, _, _, _, _, _, by omega, HL7.out, HI.out.up⟩
      · go_wp2_with fail
        go_ret
        exact ⟨rfl, nd, _, _, _, _, _, _, _, _, _, _, by omega, HL7.out, HI.out.up⟩
end

end Go.Proofs.Ytndbhcdiinpkkaa

/- Layer 4's law: an act that edits. -/
import Derived.Test.YtndbhcdiinpkkaaDropAct04
import Derived.Test.YtndbhcdiinpkkaaBooks04
import Derived.Test.YtndbhcdiinpkkaaUntil
import Derived.Test.YtndbhcdiinpkkaaEdited04
import Derived.Test.YtndbhcdiinpkkaaClone04
import Derived.Test.YtndbhcdiinpkkaaAdd04
import Derived.Deep.RegionHeldLaw
import Derived.Deep.Cut
namespace Go.Proofs.Ytndbhcdiinpkkaa
open Go.RowKit

theorem aedit' (i : Nat) (o : Int) (c c0 c1 : Hc) (v k : Value) (b most : Nat) (M : Cells) (F : Nat → Prop) (w : World) (h : Ar w b most M F) (hi : M i = some (c0, 1)) (he : o = c0.owner) (ho : ¬ o = 0) (hc : { c with owner := o } = c1) (hv : Rd w v c.vals.length (c.vals.flatMap cells3)) (hk : Rd w k c.kids.length (nums (ns c.kids)))
    (nv : c.vals.length ≤ 4194304) (nk : c.kids.length ≤ 4194304) (hg : (ns c.kids).all (goodB M) = true) :
    Calls Try.prog 20 #[ap b, .int .i64 i, .int .u32 o, cagg c.owner c.a c.b v k] w fun e w' => e = .returned (.int .i64 0) ∧ Ar w' b most (upd M i (some (c1, 1))) (Fn F w w') ∧ Kp F w w' := by
  subst he hc
  exact aedit i c c0 v k b most M F w h hi ho hv hk nv nk hg

/-- What stands in the midst of an edit. -/
structure Mid (w0 wr : World) (wb b rb nd most z zl : Nat) (vC vn vm : Value) (D : Nat → Dc) (K : Nat → Value) (Nm mine : Nat → Nat) (M : Cells) (F : Nat → Prop) (kd i ow p q wo : Int) (x y : Nat) : Prop where
  law : Law w0 wr wb b rb nd most vC vn vm D K Nm mine M F
  act : C6 wr z 38 (.int .u8 kd) (.int .i64 i) (.int .u32 ow) (.int .i64 p) (.int .i64 q) (.int .u32 wo)
  pr : C2 wr zl 36 (.int .i64 (x : Int)) (.int .i64 (y : Int))
theorem Mid.mine {w0 wr wr' : World} {wb b rb nd most z zl : Nat} {vC vn vm : Value} {D D' : Nat → Dc} {K : Nat → Value} {Nm mine mine' : Nat → Nat} {M : Cells} {F : Nat → Prop} {kd i ow p q wo : Int} {x y : Nat} (h : Mid w0 wr wb b rb nd most z zl vC vn vm D K Nm mine M F kd i ow p q wo x y)
    (hm : Mem wr' w0.heap.size wb b rb nd most vC vn vm D' K Nm mine') (hk : Kp (Lw wb rb nd vC vn vm K) wr wr') (hz : ¬ Lw wb rb nd vC vn vm K z) (hzl : ¬ Lw wb rb nd vC vn vm K zl) : Mid w0 wr' wb b rb nd most z zl vC vn vm D' K Nm mine' M F kd i ow p q wo x y :=
  ⟨h.law.numbers hm hk, h.act.kp hk hz, h.pr.kp hk hzl⟩
def mj (mine : Nat → Nat) (x y : Nat) (j : Nat) : Nat → Nat := if j = 0 then mine else if j = 1 then inc mine x else inc (inc mine x) y

section
variable {w0 w w' : World} {wb b rb nd most L : Nat} {vC vn vm : Value} {D D' : Nat → Dc} {K : Nat → Value} {Nm mine own : Nat → Nat} {M : Cells} {F : Nat → Prop} {B : Nat}
set_option maxRecDepth 100000 in
set_option maxHeartbeats 8000000 in
theorem act_edit (kd i ow p q wo : Int) (hkd : kd % 4 = 3) (k0 : 0 ≤ kd) (k255 : kd ≤ 255) (ho1 : 0 ≤ ow) (ho2 : ow ≤ 4294967295) (hw1 : 0 ≤ wo) (hw2 : wo ≤ 4294967295) (hL : L ≤ 500) (hn : nd ≤ L) (h : Law w0 w wb b rb nd most vC vn vm D K Nm mine M F) (hI : Inv nd most L D Nm mine own M) (hmk : 1 ≤ mine (ix nd i)) (hno : ¬ ow % 3 = 0) (how : (D (ix nd i)).owner = ow % 3) (hrf : (D (ix nd i)).refs = 1) :
    Calls Try.prog 11 #[wp' wb, aact kd i ow p q wo] w (Acted w0 wb b rb most L) := by
  have hm : ∀ k, mine k ≤ 1000 := fun k => by have := hI.mine_le k; omega
  have n1 := h.mem.doc.n1
  have n2 := h.mem.doc.n2
  have hkl := ix_lt n1 i
  have hix := ix_run n1 n2 i
  obtain ⟨k, hk⟩ : ∃ k, k = ix nd i := ⟨_, rfl⟩
  rw [← hk] at hkl hix hmk how hrf
  clear hk
  have e0 : (kd % 4 == 0) = false := by simp; omega
  have e1 : (kd % 4 == 1) = false := by simp; omega
  have e2 : (kd % 4 == 2) = false := by simp; omega
  have HL := Lib.hid h
  have HI := Lib.hid hI
  clear h hI hkd
  go_enter Try.func11, Try.ntmps11
  go_wp2_with fail
  refine (lpair p q _ (HL.out.mem.alloc _) hm).mono ?_
  rintro e w1 ⟨x, y, hg, rfl, hb1⟩
  have hA := (C6.new w 38 (.int .u8 kd) (.int .i64 i) (.int .u32 ow) (.int .i64 p) (.int .i64 q) (.int .u32 wo)).below hb1
  have HL1 := Lib.hid ((HL.out.alloc (.cells #[.int .u8 kd, .int .i64 i, .int .u32 ow, .int .i64 p, .int .i64 q, .int .u32 wo] 38)).below hb1)
  have a0 := hA.c0
  have a1 := hA.c1
  have hal := hA.lt
  have m3 := HL1.out.mem.wd.c3
  have hwl := HL1.out.mem.wd.lt
  obtain ⟨gm, cm, hvm, hcm, hfm⟩ := HL1.out.mem.mineAt hkl
  rw [hvm] at m3
  have HGV := Lib.hid hg
  have hFz := Lib.hid (show ∀ g, F g ∨ Lw wb rb nd vC vn vm K g → g < w.heap.size from fun g hg => hg.elim (fun e => HL.out.ar.lt e) (fun e => (HL.out.mem.lt e).2))
  have hz1 : w.heap.size < w1.heap.size := by have := hb1.size; simp at this; omega
  have hw0 := Lib.hid HL.out.bel.size
  clear hb1 HL hg
  go_wp2_with fail
  go_quiet (fail)
  rw [hix]
  generalize hw2' : (w1.alloc (.cells #[.int .i64 (x : Int), .int .i64 (y : Int)] 36)).drewN nq = w2
  have L2 : Law w0 w2 wb b rb nd most vC vn vm D K Nm mine M F := hw2' ▸ (HL1.out.alloc _).below (below_drewN _ _)
  have B2 : C2 w2 w1.heap.size 36 (.int .i64 (x : Int)) (.int .i64 (y : Int)) := hw2' ▸ (C2.new w1 _ _ _).below (below_drewN _ _)
  have A2 : C6 w2 w.heap.size 38 (.int .u8 kd) (.int .i64 i) (.int .u32 ow) (.int .i64 p) (.int .i64 q) (.int .u32 wo) := hw2' ▸ (hA.alloc _).below (below_drewN _ _)
  obtain ⟨z, hz⟩ : ∃ z, z = w.heap.size := ⟨_, rfl⟩
  obtain ⟨zl, hzl⟩ : ∃ zl, zl = w1.heap.size := ⟨_, rfl⟩
  rw [← hz] at A2 hFz hz1 hw0 ⊢
  rw [← hzl] at B2 hz1 ⊢
  clear hz hzl hw2' HL1 hA a0 a1 hal m3 hwl hcm hfm hix
  have hmk' : ¬ (mine k : Int) = 0 := by omega
  have hmle := hm k
  obtain ⟨k2, hrk, hk0⟩ := HI.out.held (k := k) (by omega)
  obtain ⟨b0, b1, b2, b3, b4, b5, _⟩ := A2.all
  obtain ⟨l0, l1, lf0, lf1⟩ := B2.all
  have m1 := L2.mem.wd.c1
  have m3 := L2.mem.wd.c3
  have m0 := L2.mem.wd.c0
  obtain ⟨gm, cm, hvm, hcm, hfm⟩ := L2.mem.mineAt hkl
  rw [hvm] at m3
  obtain ⟨gC, cC, hvC, _⟩ := L2.mem.doc.at hkl
  have d0 := L2.mem.doc.rd.c0
  rw [hvC] at d0
  have y2 : ow.tmod 3 = ow % 3 := Int.tmod_eq_emod_of_nonneg ho1
  have y3 : (0 : Int) ≤ (k : Int) := by omega
  have y4 : (k : Int) < (nd : Int) := by omega
  have HL2 := Lib.hid L2
  have HA2 := Lib.hid A2
  have HB2 := Lib.hid B2
  have hzF : ¬ F z := fun hf => by have := hFz.out z (.inl hf); omega
  have hzlF : ¬ F zl := fun hf => by have := hFz.out zl (.inl hf); omega
  have hzL : ¬ Lw wb rb nd vC vn vm K z := fun hf => by have := hFz.out z (.inr hf); omega
  have hzlL : ¬ Lw wb rb nd vC vn vm K zl := fun hf => by have := hFz.out zl (.inr hf); omega
  have hw0' : w0.heap.size ≤ zl := by have := hw0.out; omega
  have HZ := Lib.hid (show (¬ F z ∧ ¬ F zl) ∧ ¬ Lw wb rb nd vC vn vm K z ∧ ¬ Lw wb rb nd vC vn vm K zl from ⟨⟨hzF, hzlF⟩, hzL, hzlL⟩)
  have HST := Lib.hid (show Gives nd mine 0 0 ∧ (0 : Nat) ≠ k from ⟨⟨by omega, by omega, fun h => absurd rfl h, fun h => absurd rfl h, fun _ h => absurd rfl h⟩, Ne.symm hk0⟩)
  have HZE := Lib.hid (show Law w0 ((w2.setCell ⟨zl, 0, none⟩ (.int .i64 0)).setCell ⟨zl, 1, none⟩ (.int .i64 0)) wb b rb nd most vC vn vm D K Nm mine M F ∧ C6 ((w2.setCell ⟨zl, 0, none⟩ (.int .i64 0)).setCell ⟨zl, 1, none⟩ (.int .i64 0)) z 38 (.int .u8 kd) (.int .i64 i) (.int .u32 ow) (.int .i64 p) (.int .i64 q) (.int .u32 wo) from
    ⟨L2.elsewhere (((Kp.refl (fun g => g = zl) w2).setCell (.inl rfl) _).setCell (.inl rfl) _) (fun g e => e ▸ ⟨hw0', hzlF, hzlL⟩), A2.kp (((Kp.refl (fun g => g = zl) w2).setCell (.inl rfl) _).setCell (.inl rfl) _) (by omega)⟩)
  clear L2 A2 B2 hzF hzlF hzL hzlL
  have hcase : x = k ∨ (x ≠ k ∧ y = k) ∨ (x ≠ k ∧ y ≠ k) := by omega
  rcases hcase with ex | ⟨ex, ey⟩ | ⟨ex, ey⟩
  case' inl =>
    have q1 : (x : Int) = (k : Int) := by omega
    go_wp2_with fail
    obtain ⟨w3, x', y', L3, A3, B3, G3, ne1, ne2, hw3⟩ : ∃ w3 x' y', Law w0 w3 wb b rb nd most vC vn vm D K Nm mine M F ∧ C6 w3 z 38 (.int .u8 kd) (.int .i64 i) (.int .u32 ow) (.int .i64 p) (.int .i64 q) (.int .u32 wo) ∧ C2 w3 zl 36 (.int .i64 ((x' : Nat) : Int)) (.int .i64 ((y' : Nat) : Int)) ∧ Gives nd mine x' y' ∧ x' ≠ k ∧ y' ≠ k ∧ w3 = ((w2.setCell ⟨zl, 0, none⟩ (.int .i64 0)).setCell ⟨zl, 1, none⟩ (.int .i64 0)) :=
      ⟨_, 0, 0, HZE.out.1, HZE.out.2, (HB2.out.set0 _).set1 _, HST.out.1, HST.out.2, HST.out.2, rfl⟩
    rw [← hw3]
    clear hw3 q1 ex
  case' inr.inl =>
    have q1 : ¬ (x : Int) = (k : Int) := by omega
    have q2 : (y : Int) = (k : Int) := by omega
    go_wp2_with fail
    obtain ⟨w3, x', y', L3, A3, B3, G3, ne1, ne2, hw3⟩ : ∃ w3 x' y', Law w0 w3 wb b rb nd most vC vn vm D K Nm mine M F ∧ C6 w3 z 38 (.int .u8 kd) (.int .i64 i) (.int .u32 ow) (.int .i64 p) (.int .i64 q) (.int .u32 wo) ∧ C2 w3 zl 36 (.int .i64 ((x' : Nat) : Int)) (.int .i64 ((y' : Nat) : Int)) ∧ Gives nd mine x' y' ∧ x' ≠ k ∧ y' ≠ k ∧ w3 = ((w2.setCell ⟨zl, 0, none⟩ (.int .i64 0)).setCell ⟨zl, 1, none⟩ (.int .i64 0)) :=
      ⟨_, 0, 0, HZE.out.1, HZE.out.2, (HB2.out.set0 _).set1 _, HST.out.1, HST.out.2, HST.out.2, rfl⟩
    rw [← hw3]
    clear hw3 q1 q2 ex ey
  case' inr.inr =>
    have q1 : ((x : Int) == (k : Int)) = false := by simp; omega
    have q2 : ((y : Int) == (k : Int)) = false := by simp; omega
    go_wp2_with fail
    obtain ⟨w3, x', y', L3, A3, B3, G3, ne1, ne2, hw3⟩ : ∃ w3 x' y', Law w0 w3 wb b rb nd most vC vn vm D K Nm mine M F ∧ C6 w3 z 38 (.int .u8 kd) (.int .i64 i) (.int .u32 ow) (.int .i64 p) (.int .i64 q) (.int .u32 wo) ∧ C2 w3 zl 36 (.int .i64 ((x' : Nat) : Int)) (.int .i64 ((y' : Nat) : Int)) ∧ Gives nd mine x' y' ∧ x' ≠ k ∧ y' ≠ k ∧ w3 = w2 :=
      ⟨_, x, y, HL2.out, HA2.out, HB2.out, HGV.out, ex, ey, rfl⟩
    rw [← hw3]
    clear hw3 q1 q2 ex ey
  all_goals
    have HL5 := Lib.hid (L3.below (w' := w3.drew) (Below.refl _ _).drew)
    obtain ⟨gn, cn, hvn, vcn⟩ := L3.mem.nameAt hkl
    have v2 := L3.mem.wd.c2
    have v0 := L3.mem.wd.c0
    rw [hvn] at v2
    have HG3 := Lib.hid G3
    obtain ⟨l7, hl7⟩ : ∃ l : List (Addr × Value), l = [(⟨wb, 0, none⟩, ap b), (⟨wb, 2, none⟩, .slice (some ⟨gn, 0, none⟩) nd cn), (⟨gn, k, none⟩, .int .i64 (Nm k : Int)), (⟨z, 0, none⟩, .int .u8 kd), (⟨z, 1, none⟩, .int .i64 i), (⟨z, 2, none⟩, .int .u32 ow), (⟨z, 3, none⟩, .int .i64 p), (⟨z, 4, none⟩, .int .i64 q), (⟨z, 5, none⟩, .int .u32 wo), (⟨zl, 0, none⟩, .int .i64 (x' : Int)), (⟨zl, 1, none⟩, .int .i64 (y' : Int))] := ⟨_, rfl⟩
    have HS0 := Lib.hid (show Has l7 w3.drew from fun p' hp => by
      rw [hl7] at hp
      simp at hp
      rcases hp with rfl | rfl | rfl | rfl | rfl | rfl | rfl | rfl | rfl | rfl | rfl
      · exact v0
      · exact v2
      · exact vcn
      · exact A3.c0
      · exact A3.c1
      · exact A3.c2
      · exact A3.c3
      · exact A3.c4
      · exact A3.c5
      · exact B3.c0
      · exact B3.c1)
    have hwF : ¬ F wb := L3.sep wb (.inl rfl)
    have hgF : ¬ F gn := L3.sep gn (.inr (.inr (.inr (.inl (by rw [hvn]; rfl)))))
    have HSk := Lib.hid (show ∀ W W', Has l7 W → Kp F W W' → Has l7 W' from fun W W' h hb => h.kp hb (fun p' hp => by
      rw [hl7] at hp
      simp at hp
      rcases hp with rfl | rfl | rfl | rfl | rfl | rfl | rfl | rfl | rfl | rfl | rfl
      · exact hwF
      · exact hwF
      · exact hgF
      · exact HZ.out.1.1
      · exact HZ.out.1.1
      · exact HZ.out.1.1
      · exact HZ.out.1.1
      · exact HZ.out.1.1
      · exact HZ.out.1.1
      · exact HZ.out.1.2
      · exact HZ.out.1.2))
    clear hwF hgF
    have r0 : ∀ W, Has l7 W → W.cell? ⟨wb, 0, none⟩ = some (ap b) := fun W h => h (⟨wb, 0, none⟩, ap b) (by rw [hl7]; simp)
    have r1 : ∀ W, Has l7 W → W.cell? ⟨wb, 2, none⟩ = some (.slice (some ⟨gn, 0, none⟩) nd cn) := fun W h => h (⟨wb, 2, none⟩, .slice (some ⟨gn, 0, none⟩) nd cn) (by rw [hl7]; simp)
    have r2 : ∀ W, Has l7 W → W.cell? ⟨gn, k, none⟩ = some (.int .i64 (Nm k : Int)) := fun W h => h (⟨gn, k, none⟩, .int .i64 (Nm k : Int)) (by rw [hl7]; simp)
    have r3 : ∀ W, Has l7 W → W.cell? ⟨z, 0, none⟩ = some (.int .u8 kd) := fun W h => h (⟨z, 0, none⟩, .int .u8 kd) (by rw [hl7]; simp)
    have r4 : ∀ W, Has l7 W → W.cell? ⟨z, 1, none⟩ = some (.int .i64 i) := fun W h => h (⟨z, 1, none⟩, .int .i64 i) (by rw [hl7]; simp)
    have r5 : ∀ W, Has l7 W → W.cell? ⟨z, 2, none⟩ = some (.int .u32 ow) := fun W h => h (⟨z, 2, none⟩, .int .u32 ow) (by rw [hl7]; simp)
    have r6 : ∀ W, Has l7 W → W.cell? ⟨z, 3, none⟩ = some (.int .i64 p) := fun W h => h (⟨z, 3, none⟩, .int .i64 p) (by rw [hl7]; simp)
    have r7 : ∀ W, Has l7 W → W.cell? ⟨z, 4, none⟩ = some (.int .i64 q) := fun W h => h (⟨z, 4, none⟩, .int .i64 q) (by rw [hl7]; simp)
    have r8 : ∀ W, Has l7 W → W.cell? ⟨z, 5, none⟩ = some (.int .u32 wo) := fun W h => h (⟨z, 5, none⟩, .int .u32 wo) (by rw [hl7]; simp)
    have r9 : ∀ W, Has l7 W → W.cell? ⟨zl, 0, none⟩ = some (.int .i64 (x' : Int)) := fun W h => h (⟨zl, 0, none⟩, .int .i64 (x' : Int)) (by rw [hl7]; simp)
    have r10 : ∀ W, Has l7 W → W.cell? ⟨zl, 1, none⟩ = some (.int .i64 (y' : Int)) := fun W h => h (⟨zl, 1, none⟩, .int .i64 (y' : Int)) (by rw [hl7]; simp)
    have HA5 := Lib.hid (show C6 w3.drew z 38 (.int .u8 kd) (.int .i64 i) (.int .u32 ow) (.int .i64 p) (.int .i64 q) (.int .u32 wo) from A3)
    have HB5 := Lib.hid (show C2 w3.drew zl 36 (.int .i64 (x' : Int)) (.int .i64 (y' : Int)) from B3)
    have HM := Lib.hid (HI.out.rel.r1 k k2 hrk)
    clear hl7 L3 A3 B3 G3 v0 v2 vcn m0 m1 m3 hcm hfm d0 b0 b1 b2 b3 b4 b5 l0 l1 lf0 lf1 HL2 HA2 HB2 HZE
    have hgood := Lib.hid (HI.out.good HG3.out)
    have hc1 := Lib.hid (show ({ cellOf nx Nm ⟨x', y', 1, ow % 3, wo⟩ with owner := ow % 3 } : Hc) = cellOf nx Nm { D k with x := x', y := y', word := wo } by unfold cellOf; simp only [how])
    have n5 : 1 ≤ 4194304 := by decide
    have n6 : 2 ≤ 4194304 := by decide
    rw [hrf] at HM
    go_region_held (fun W => Has l7 W)
      (first | with_reducible assumption | with_reducible exact HS0.out | (rename Has _ _ => hH; with_reducible exact HSk.out _ _ hH hby) | (rename Has _ _ => hH; with_reducible exact HSk.out _ _ hH hbz))
      (first
        | (go_at_call 38; refine (lcell kd i ow p q wo x' y' _ HL5.out.mem HG3.out.1 HG3.out.2.1 ho1 ho2 hw1 hw2).mono ?_; rintro e wy ⟨v, kv, rfl, hv, hkv, hv2, hk2, hbe⟩; obtain ⟨Av, cv', rfl, _⟩ := hv.form; obtain ⟨Ak, ck, rfl, _⟩ := hkv.form; have HL6 := Lib.hid (HL5.out.below hbe); have HA6 := Lib.hid (HA5.out.below hbe); have HB6 := Lib.hid (HB5.out.below hbe); have hby := Kp.of_below hbe F; have HV6 := Lib.hid (show Rd wy (.slice Av 1 cv') (cellOf nx Nm ⟨x', y', 1, ow % 3, wo⟩).vals.length ((cellOf nx Nm ⟨x', y', 1, ow % 3, wo⟩).vals.flatMap cells3) from hv); have HK6 := Lib.hid (show Rd wy (.slice Ak 2 ck) (cellOf nx Nm ⟨x', y', 1, ow % 3, wo⟩).kids.length (nums (ns (cellOf nx Nm ⟨x', y', 1, ow % 3, wo⟩).kids)) from hkv); clear hv hkv hv2 hk2 hbe)
        | (go_at_call 20; refine (aedit' (Nm k) (ow % 3) (cellOf nx Nm ⟨x', y', 1, ow % 3, wo⟩) (cellOf nx Nm (D k)) _ _ _ b most M F _ HL6.out.ar HM.out how.symm hno hc1.out HV6.out HK6.out n5 n6 hgood.out).mono ?_; rintro e wz ⟨rfl, haz, hbz⟩))
    rename Has _ _ => hH
    have HM7 := Lib.hid (Mid.mk (HL6.out.arena haz hbz) (HA6.out.kp hbz HZ.out.1.1) (HB6.out.kp hbz HZ.out.1.2))
    clear hH r0 r1 r2 r3 r4 r5 r6 r7 r8 r9 r10 HS0 HSk hby hbz haz HL5 HL6 HA5 HB5 HA6 HB6 HV6 HK6
    obtain ⟨gC', cC', hvC', uk, ur, uo, uw, uf⟩ := HM7.out.law.mem.doc.at hkl
    rw [hvC] at hvC'
    simp only [Value.slice.injEq, Option.some.injEq, Addr.mk.injEq, and_true, true_and] at hvC'
    obtain ⟨rfl, rfl⟩ := hvC'
    obtain ⟨gK, cK, hK, _, hcK, _⟩ := own_at (HM7.out.law.mem.doc.kr k (by omega) hkl) (j := 0) (u := .int .i64 ((D k).x : Int)) rfl
    rw [hK] at uk
    rw [how] at uo
    rw [hrf] at ur
    have hr4 := HI.out.rel.r4 k k2 hrk
    have hI2 := Lib.hid (show ∀ j, mine j ≤ 500 from fun j => by have := HI.out.mine_le j; omega)
    have hbq : (ow % 3 == 0) = false := by simp; omega
    clear hcK
    go_wp2_with fail
    go_loopg [278] 2 (fun c i' wr => ∃ j : Nat, j + c = 2 ∧ i' = .int .i64 j ∧ Mid w0 wr wb b rb nd most z zl vC vn vm D K Nm (mj mine (D k).x (D k).y j) (upd M (Nm k) (some (cellOf nx Nm { D k with x := x', y := y', word := wo }, 1))) (Fn F wy wz) kd i ow p q wo x' y')
    case atStart => exact ⟨0, rfl, rfl, HM7.out⟩
    case round =>
      obtain ⟨j, hj, rfl, hM⟩ := hrel
      match j, hj with
      | 0, hj =>
        obtain rfl : gk = 2 := by omega
        have hM' : Mid w0 wr wb b rb nd most z zl vC vn vm D K Nm mine (upd M (Nm k) (some (cellOf nx Nm { D k with x := x', y := y', word := wo }, 1))) (Fn F wy wz) kd i ow p q wo x' y' := hM
        clear hM
        obtain ⟨gK', cK', hK', _, hc0, _⟩ := own_at (hM'.law.mem.doc.kr k (by omega) hkl) (j := 0) (u := .int .i64 ((D k).x : Int)) rfl
        rw [hK] at hK'
        simp only [Value.slice.injEq, Option.some.injEq, Addr.mk.injEq, and_true, true_and] at hK'
        obtain ⟨rfl, rfl⟩ := hK'
        by_cases h0 : (D k).x = 0
        · have HN := Lib.hid (show Mid w0 wr wb b rb nd most z zl vC vn vm D K Nm (inc mine (D k).x) (upd M (Nm k) (some (cellOf nx Nm { D k with x := x', y := y', word := wo }, 1))) (Fn F wy wz) kd i ow p q wo x' y' from by rw [h0, inc_zero]; exact hM')
          rw [h0] at hc0
          clear hM'
          go_wp2_with fail
          go_roundg 1
          case measure => omega
          case rel => exact ⟨1, rfl, rfl, HN.out⟩
        · have hxl : (D k).x < nd := hr4.1
          obtain ⟨g, c, hv, hc, hf⟩ := hM'.law.mem.mineAt hxl
          have c3 := hM'.law.mem.wd.c3
          rw [hv] at c3
          have hmx : mine (D k).x ≤ 1002 := by have := hm (D k).x; omega
          obtain ⟨s1, t1⟩ := hM'.law.mem.setMine hxl (mine (D k).x + 1) hv
          have e3 : ((mine (D k).x + 1 : Nat) : Int) = (mine (D k).x : Int) + 1 := by omega
          rw [e3] at s1 t1
          have HN := Lib.hid (show Mid w0 _ wb b rb nd most z zl vC vn vm D K Nm (inc mine (D k).x) (upd M (Nm k) (some (cellOf nx Nm { D k with x := x', y := y', word := wo }, 1))) (Fn F wy wz) kd i ow p q wo x' y' from by rw [inc_pos _ h0]; exact hM'.mine s1 t1 HZ.out.2.1 HZ.out.2.2)
          have h0' : ¬ ((D k).x : Int) = 0 := by omega
          have y5 : (0 : Int) ≤ ((D k).x : Int) := by omega
          have y6 : ((D k).x : Int) < (nd : Int) := by omega
          clear hM' s1 t1 e3
          go_wp2_with fail
          go_roundg 1
          case measure => omega
          case rel => exact ⟨1, rfl, rfl, HN.out⟩
      | 1, hj =>
        obtain rfl : gk = 1 := by omega
        have hM' : Mid w0 wr wb b rb nd most z zl vC vn vm D K Nm (inc mine (D k).x) (upd M (Nm k) (some (cellOf nx Nm { D k with x := x', y := y', word := wo }, 1))) (Fn F wy wz) kd i ow p q wo x' y' := hM
        clear hM
        obtain ⟨gK', cK', hK', _, hc0, _⟩ := own_at (hM'.law.mem.doc.kr k (by omega) hkl) (j := 1) (u := .int .i64 ((D k).y : Int)) rfl
        rw [hK] at hK'
        simp only [Value.slice.injEq, Option.some.injEq, Addr.mk.injEq, and_true, true_and] at hK'
        obtain ⟨rfl, rfl⟩ := hK'
        by_cases h0 : (D k).y = 0
        · have HN := Lib.hid (show Mid w0 wr wb b rb nd most z zl vC vn vm D K Nm (inc (inc mine (D k).x) (D k).y) (upd M (Nm k) (some (cellOf nx Nm { D k with x := x', y := y', word := wo }, 1))) (Fn F wy wz) kd i ow p q wo x' y' from by rw [h0, inc_zero]; exact hM')
          rw [h0] at hc0
          clear hM'
          go_wp2_with fail
          go_roundg 0
          case measure => omega
          case rel => exact ⟨2, rfl, rfl, HN.out⟩
        · have hxl : (D k).y < nd := hr4.2.1
          obtain ⟨g, c, hv, hc, hf⟩ := hM'.law.mem.mineAt hxl
          have c3 := hM'.law.mem.wd.c3
          rw [hv] at c3
          have hmx : (inc mine (D k).x) (D k).y ≤ 1002 := by have := inc_le mine (D k).x hm (D k).y; omega
          obtain ⟨s1, t1⟩ := hM'.law.mem.setMine hxl ((inc mine (D k).x) (D k).y + 1) hv
          have e3 : (((inc mine (D k).x) (D k).y + 1 : Nat) : Int) = ((inc mine (D k).x) (D k).y : Int) + 1 := by omega
          rw [e3] at s1 t1
          have HN := Lib.hid (show Mid w0 _ wb b rb nd most z zl vC vn vm D K Nm (inc (inc mine (D k).x) (D k).y) (upd M (Nm k) (some (cellOf nx Nm { D k with x := x', y := y', word := wo }, 1))) (Fn F wy wz) kd i ow p q wo x' y' from by rw [inc_pos _ h0]; exact hM'.mine s1 t1 HZ.out.2.1 HZ.out.2.2)
          have h0' : ¬ ((D k).y : Int) = 0 := by omega
          have y5 : (0 : Int) ≤ ((D k).y : Int) := by omega
          have y6 : ((D k).y : Int) < (nd : Int) := by omega
          clear hM' s1 t1 e3
          go_wp2_with fail
          go_roundg 0
          case measure => omega
          case rel => exact ⟨2, rfl, rfl, HN.out⟩
      | 2, hj =>
        have hM' : Mid w0 wr wb b rb nd most z zl vC vn vm D K Nm (inc (inc mine (D k).x) (D k).y) (upd M (Nm k) (some (cellOf nx Nm { D k with x := x', y := y', word := wo }, 1))) (Fn F wy wz) kd i ow p q wo x' y' := hM
        clear hM
        have l0 := hM'.pr.c0
        have l1 := hM'.pr.c1
        have HM8 := Lib.hid hM'
        have hm3 : ∀ j, inc (inc mine (D k).x) (D k).y j ≤ 1000 := fun j => by have := inc_le _ (D k).y (inc_le mine (D k).x hI2.out) j; omega
        have hge := Lib.hid (HG3.out.more (fun j => Nat.le_trans (inc_ge mine (D k).x j) (inc_ge (inc mine (D k).x) (D k).y j)))
        clear hM'
        go_wp2_with fail
        refine (lgive x' y' _ HM8.out.law.mem n2 hm3 hge.out).mono ?_
        rintro e w8 ⟨rfl, hM8, hK8⟩
        have HM9 := Lib.hid (HM8.out.mine hM8 hK8 HZ.out.2.1 HZ.out.2.2)
        clear hM8 hK8 l0 l1 HM8 hm3 hge
        go_wp2_with fail
        have HL9 := Lib.hid (HM9.out.law.below (w' := w8.drew) (Below.refl _ _).drew)
        have a5 : w8.drew.cell? ⟨z, 5, none⟩ = some (.int .u32 wo) := HM9.out.act.c5
        have HA9 := Lib.hid (show C6 w8.drew z 38 (.int .u8 kd) (.int .i64 i) (.int .u32 ow) (.int .i64 p) (.int .i64 q) (.int .u32 wo) from HM9.out.act)
        have hRk := Lib.hid (show Rd w8.drew (.slice (some ⟨zl, 0, none⟩) 2 2) [(x' : Int), (y' : Int)].length (nums [(x' : Int), (y' : Int)]) from .inr ⟨zl, 0, 2, rfl, Nat.le_refl _, fun j u hu => by
          match j, hu with
          | 0, hu => simp [nums] at hu; subst hu; exact HM9.out.pr.c0
          | 1, hu => simp [nums] at hu; subst hu; exact HM9.out.pr.c1⟩)
        have n7 : [(x' : Int), (y' : Int)].length ≤ 4194304 := by show 2 ≤ 4194304; decide
        have hzg : ¬ z = gC := fun e => HZ.out.2.1 (.inr (.inr (.inl (by rw [hvC, e]; rfl))))
        have hS : Has [(⟨z, 5, none⟩, .int .u32 wo)] w8.drew := fun p' hp => by
          simp at hp
          subst hp
          exact a5
        have rl : ∀ W, Has [(⟨z, 5, none⟩, .int .u32 wo)] W → W.cell? ⟨z, 5, none⟩ = some (.int .u32 wo) := fun W h => h (⟨z, 5, none⟩, .int .u32 wo) (by simp)
        have hSk : ∀ W W' G, Has [(⟨z, 5, none⟩, .int .u32 wo)] W → Kp G W W' → ¬ G z → Has [(⟨z, 5, none⟩, .int .u32 wo)] W' := fun W W' G h hk hG => h.kp hk (fun p' hp => by
          simp at hp
          subst hp
          exact hG)
        clear a5
        refine region_until (fun W => Has [(⟨z, 5, none⟩, .int .u32 wo)] W) (fun j => j == 3 || j == 6 || j == 7 || j == 8 || j == 11) (by kernel_rfl) ?_
        refine Until.take (i := 0) (v := .pointer (some ⟨gC, k * 4, none⟩)) rfl (by kernel_rfl) (by kernel_rfl) (by kernel_rfl) (fun _ _ _ h => h) rfl (Or.inl ⟨by rfl, fun w => by go_simp⟩) ?_
        go_simp
        refine Until.take (i := 1) (v := .pointer (some ⟨gC, k * 4, none⟩)) rfl (by kernel_rfl) (by kernel_rfl) (by kernel_rfl) (fun _ _ _ h => h) rfl (Or.inl ⟨by rfl, fun w => by go_simp⟩) ?_
        go_simp
        refine Until.take (i := 2) (v := .slice (some ⟨zl, 0, none⟩) 2 2) rfl (by kernel_rfl) (by kernel_rfl) (by kernel_rfl) (fun _ _ _ h => h) rfl (Or.inl ⟨by rfl, fun w => by go_simp⟩) ?_
        go_simp
        refine Until.take (i := 4) (v := .pointer (some ⟨z, 5, none⟩)) rfl (by kernel_rfl) (by kernel_rfl) (by kernel_rfl) (fun _ _ _ h => h) rfl (Or.inl ⟨by rfl, fun w => by go_simp⟩) ?_
        go_simp
        refine Until.load (i := 5) (v := .int .u32 wo) rfl (by kernel_rfl) (by kernel_rfl) (by kernel_rfl) (fun _ _ _ h => h) (Or.inl ⟨by rfl, fun w hw => by have := rl w hw; go_simp⟩) hS ?_
        go_simp
        refine Until.all (rs := [3]) (by kernel_rfl) (by simp) ?_
        intro j hj
        simp only [List.mem_cons, List.not_mem_nil, or_false] at hj
        subst hj
        refine wpOp_open rfl ?_
        intro K' hK'
        refine step_call rfl 43 #[.slice (some ⟨zl, 0, none⟩) 2 2] (by go_simp) (clone_ints _ [(x' : Int), (y' : Int)] _ hRk.out n7) ?_
        rintro v9 w9 ⟨ho9, hb9⟩
        obtain ⟨A9, m9, rfl, _⟩ := (Rd.of_own ho9).form
        obtain ⟨g9, c9, hv9, s9, _, _, u9, f9⟩ := (HL9.out.below hb9).mem.doc.at hkl
        rw [hvC] at hv9
        simp only [Value.slice.injEq, Option.some.injEq, Addr.mk.injEq, and_true, true_and] at hv9
        obtain ⟨rfl, rfl⟩ := hv9
        have f90 := f9 (k * 4)
        have f93 := f9 (k * 4 + 3)
        have HO9 := Lib.hid ho9
        have HB9 := Lib.hid hb9
        have hS9 := hSk _ _ _ hS (Kp.of_below hb9 (fun _ => False)) id
        clear ho9 hb9 f9
        refine hK' _ _ ⟨fun _ => hS9, ?_⟩
        go_simp
        refine Until.all (rs := [6]) (by kernel_rfl) (by simp) ?_
        intro j hj
        simp only [List.mem_cons, List.not_mem_nil, or_false] at hj
        subst hj
        refine wpOp_open rfl ?_
        intro K' hK'
        go_simp
        refine hK' _ _ ⟨fun _ => hS9, ?_⟩
        refine Until.all (rs := [7]) (by kernel_rfl) (by simp) ?_
        intro j hj
        simp only [List.mem_cons, List.not_mem_nil, or_false] at hj
        subst hj
        refine wpOp_open rfl ?_
        intro K' hK'
        go_simp
        refine hK' _ _ ⟨fun _ => hS9, ?_⟩
        refine Until.all (rs := [8]) (by kernel_rfl) (by simp) ?_
        intro j hj
        simp only [List.mem_cons, List.not_mem_nil, or_false] at hj
        subst hj
        refine wpOp_open rfl ?_
        intro K' hK'
        go_simp
        refine hK' _ _ ⟨fun _ => hSk _ _ _ hS9 (Kp.one _ _ _ _) hzg, ?_⟩
        refine Until.take (i := 9) (v := .pointer (some ⟨gC, k * 4, none⟩)) rfl (by kernel_rfl) (by kernel_rfl) (by kernel_rfl) (fun _ _ _ h => h) rfl (Or.inl ⟨by rfl, fun w => by go_simp⟩) ?_
        go_simp
        refine Until.take (i := 10) (v := .pointer (some ⟨gC, k * 4 + 3, none⟩)) rfl (by kernel_rfl) (by kernel_rfl) (by kernel_rfl) (fun _ _ _ h => h) rfl (Or.inl ⟨by rfl, fun w => by go_simp⟩) ?_
        go_simp
        refine Until.all (rs := [11]) (by kernel_rfl) (by simp) ?_
        intro j hj
        simp only [List.mem_cons, List.not_mem_nil, or_false] at hj
        subst hj
        refine wpOp_open rfl ?_
        intro K' hK'
        go_simp
        refine hK' _ _ ⟨fun _ => hSk _ _ _ (hSk _ _ _ hS9 (Kp.one _ _ _ _) hzg) (Kp.one _ _ _ _) hzg, ?_⟩
        refine Until.done (by kernel_rfl) ?_
        obtain ⟨t1, t2, t3⟩ := HL9.out.mem.edited hkl x' y' wo HB9.out HO9.out HL9.out.bel.size hvC
        have HF := Lib.hid (HL9.out.ours t1 t2 t3)
        have HIF := Lib.hid (HI.out.edit (k := k) (wo := wo) hmk hrf HG3.out ne1 ne2 ⟨hw1, hw2⟩).up
        clear t1 t2 t3 s9 u9 f90 f93 hS hS9 hSk rl
        go_wp2_with fail
        go_ret
        exact ⟨rfl, nd, _, _, _, _, _, _, _, _, _, _, by omega, HF.out, HIF.out⟩
      | j + 3, hj => omega
end

end Go.Proofs.Ytndbhcdiinpkkaa

/- Layer 4's law: an act that keeps. -/
import Derived.Test.YtndbhcdiinpkkaaBooks04
namespace Go.Proofs.Ytndbhcdiinpkkaa
open Go.RowKit

/-- What stands between two acts, so many behind the first. -/
def St (w0 : World) (wb b rb most L : Nat) (w : World) : Prop :=
  ∃ (nd : Nat) (vC vn vm : Value) (D : Nat → Dc) (K : Nat → Value) (Nm mine own : Nat → Nat) (M : Cells) (F : Nat → Prop), nd ≤ L ∧ Law w0 w wb b rb nd most vC vn vm D K Nm mine M F ∧ Inv nd most L D Nm mine own M
theorem St.below {w0 w w' : World} {wb b rb most L : Nat} (h : St w0 wb b rb most L w) (hb : Below w.heap.size w w') : St w0 wb b rb most L w' := by
  obtain ⟨nd, vC, vn, vm, D, K, Nm, mine, own, M, F, h1, h2, h3⟩ := h
  exact ⟨nd, vC, vn, vm, D, K, Nm, mine, own, M, F, h1, h2.below hb, h3⟩
def Acted (w0 : World) (wb b rb most L : Nat) (e : Ending) (w' : World) : Prop := e = .returned (.bool true) ∧ St w0 wb b rb most (L + 1) w'

section
variable {w0 w : World} {wb b rb nd most L : Nat} {vC vn vm : Value} {D : Nat → Dc} {K : Nat → Value} {Nm mine own : Nat → Nat} {M : Cells} {F : Nat → Prop} {B : Nat}
theorem MemD.setRefs (h : Mem w B wb b rb nd most vC vn vm D K Nm mine) {x : Nat} (hx : x < nd) (r : Nat) : ∀ {g c : Nat}, vC = .slice (some ⟨g, 0, none⟩) nd c →
    Mem (w.setCell ⟨g, x * 4 + 1, none⟩ (.int .i64 (r : Int))) B wb b rb nd most vC vn vm (upd D x { D x with refs := r }) K Nm mine ∧ Kp (Lw wb rb nd vC vn vm K) w (w.setCell ⟨g, x * 4 + 1, none⟩ (.int .i64 (r : Int))) := by
  rintro g c rfl
  obtain ⟨h1, h2⟩ := h.doc.refs hx r rfl
  obtain ⟨cur, hg⟩ := own_type h.doc.cr g rfl
  have hk := Kp.one w g (x * 4 + 1) (.int .i64 (r : Int))
  exact ⟨⟨h.wd.kp hk (ne_types h.wd hg (by decide)), h1, hk.own h.nr (own_ne h.nr hg (by decide)), hk.own h.mr (own_ne h.mr hg (by decide)), h.nm, h.kn, h.bw, h.br⟩, hk.mono (fun b e _ => .inr (.inr (.inl (e ▸ rfl))))⟩

set_option maxRecDepth 100000 in
set_option maxHeartbeats 1600000 in
theorem act_keep (kd i ow p q wo : Int) (hkd : kd % 4 = 1) (k0 : 0 ≤ kd) (k255 : kd ≤ 255) (hL : L ≤ 500) (hn : nd ≤ L) (h : Law w0 w wb b rb nd most vC vn vm D K Nm mine M F) (hI : Inv nd most L D Nm mine own M) :
    Calls Try.prog 11 #[wp' wb, aact kd i ow p q wo] w (Acted w0 wb b rb most L) := by
  have hm : ∀ k, mine k ≤ 1000 := fun k => by have := hI.mine_le k; omega
  have n1 := h.mem.doc.n1
  have n2 := h.mem.doc.n2
  have hkl := ix_lt n1 i
  have hix := ix_run n1 n2 i
  obtain ⟨k, hk⟩ : ∃ k, k = ix nd i := ⟨_, rfl⟩
  rw [← hk] at hkl hix
  clear hk
  have e0 : (kd % 4 == 0) = false := by simp; omega
  have e1 : (kd % 4 == 1) = true := by simp; omega
  have HL := Lib.hid h
  have HI := Lib.hid hI
  clear h hI hkd
  go_enter Try.func11, Try.ntmps11
  go_wp2_with fail
  refine (lpair p q _ (HL.out.mem.alloc _) hm).mono ?_
  rintro e w1 ⟨x, y, hg, rfl, hb1⟩
  have hA := (C6.new w 38 (.int .u8 kd) (.int .i64 i) (.int .u32 ow) (.int .i64 p) (.int .i64 q) (.int .u32 wo)).below hb1
  have HL1 := Lib.hid ((HL.out.alloc (.cells #[.int .u8 kd, .int .i64 i, .int .u32 ow, .int .i64 p, .int .i64 q, .int .u32 wo] 38)).below hb1)
  have a0 := hA.c0
  have a1 := hA.c1
  have hal := hA.lt
  have m3 := HL1.out.mem.wd.c3
  have hwl := HL1.out.mem.wd.lt
  obtain ⟨gm, cm, hvm, hcm, hfm⟩ := HL1.out.mem.mineAt hkl
  rw [hvm] at m3
  clear hb1 HL hg
  go_wp2_with fail
  go_quiet (fail)
  rw [hix]
  generalize hw2 : (w1.alloc (.cells #[.int .i64 (x : Int), .int .i64 (y : Int)] 36)).drewN nq = w2
  have L2 : Law w0 w2 wb b rb nd most vC vn vm D K Nm mine M F := hw2 ▸ (HL1.out.alloc _).below (below_drewN _ _)
  have A2 : C6 w2 w.heap.size 38 (.int .u8 kd) (.int .i64 i) (.int .u32 ow) (.int .i64 p) (.int .i64 q) (.int .u32 wo) := hw2 ▸ (hA.alloc _).below (below_drewN _ _)
  obtain ⟨z, hz⟩ : ∃ z, z = w.heap.size := ⟨_, rfl⟩
  obtain ⟨zl, hzl⟩ : ∃ zl, zl = w1.heap.size := ⟨_, rfl⟩
  rw [← hz] at A2 ⊢
  rw [← hzl]
  clear hz hzl hw2 HL1 hA a0 a1 hal m3 hwl hcm hfm hix
  have b0 := A2.c0
  have d1 := L2.mem.wd.c1
  have HL2 := Lib.hid L2
  clear L2 A2
  go_wp2_with fail
  refine (ref_held k _ HL2.out.mem.doc hkl).mono ?_
  rintro e w' ⟨rfl, rfl⟩
  have m3 := HL2.out.mem.wd.c3
  have m2 := HL2.out.mem.wd.c2
  have m0 := HL2.out.mem.wd.c0
  obtain ⟨gm, cm, hvm, hcm, hfm⟩ := HL2.out.mem.mineAt hkl
  rw [hvm] at m3
  by_cases hh : 1 ≤ k ∧ 1 ≤ (D k).refs
  · have hd : (decide (1 ≤ k) && decide (1 ≤ (D k).refs)) = true := by simp; omega
    rw [hd]
    clear hd
    by_cases hmk : mine k = 0
    · have hmk' : (mine k : Int) = 0 := by omega
      go_wp2_with fail
      go_ret
      exact ⟨rfl, nd, vC, vn, vm, D, K, Nm, mine, own, M, F, by omega, HL2.out, HI.out.up⟩
    · have hmk' : ¬ (mine k : Int) = 0 := by omega
      have hmle := hm k
      obtain ⟨k2, hrk, _⟩ := HI.out.held (k := k) (by omega)
      have hlk := HI.out.lim k
      obtain ⟨gC, cC, hvC, _, _, _, _, _⟩ := HL2.out.mem.doc.at hkl
      obtain ⟨s1, t1⟩ := HL2.out.mem.setMine hkl (mine k + 1) hvm
      obtain ⟨s2, t2⟩ := s1.setRefs hkl ((D k).refs + 1) hvC
      have u1 := s1.wd.c1
      have u0 := s1.doc.rd.c0
      obtain ⟨gC', cC', hvC', _, ur, _, _, uf⟩ := s1.doc.at hkl
      rw [hvC] at hvC' u0
      simp only [Value.slice.injEq, Option.some.injEq, Addr.mk.injEq, and_true, true_and] at hvC'
      obtain ⟨rfl, rfl⟩ := hvC'
      have uf1 := uf (k * 4 + 1)
      have e3 : ((mine k + 1 : Nat) : Int) = (mine k : Int) + 1 := by omega
      have e4 : (((D k).refs + 1 : Nat) : Int) = ((D k).refs : Int) + 1 := by omega
      rw [e3] at s1 t1 s2 t2 u1 u0 ur uf uf1
      rw [e4] at s2 t2
      have HL3 := Lib.hid (HL2.out.numbers s2 (t1.trans t2 (fun _ => .inl)))
      have HI3 := Lib.hid (HI.out.keep (k := k) (by omega))
      have v0 := s2.wd.c0
      have v2 := s2.wd.c2
      obtain ⟨gn, cn, hvn, vcn⟩ := s2.nameAt hkl
      rw [hvn] at v2
      clear s1 s2 t1 t2 uf e3 e4
      go_wp2_with fail
      generalize hw3 : (w2.setCell ⟨gm, k, none⟩ (.int .i64 ((mine k : Int) + 1))).setCell ⟨gC, k * 4 + 1, none⟩ (.int .i64 (((D k).refs : Int) + 1)) = w3 at HL3 v0 v2 vcn ⊢
      clear hw3 u1 u0 ur uf1 m3 m2 m0 hcm hfm d1 b0
      have HR := Lib.hid (HI.out.rel.r1 k k2 hrk)
      have HL4 := Lib.hid (HL3.out.below (w' := w3.drew) (Below.refl _ _).drew)
      have hrl : (D k).refs ≤ 4611686018427387904 := by omega
      have y3 : (0 : Int) ≤ (k : Int) := by omega
      have y4 : (k : Int) < (nd : Int) := by omega
      go_region_with (go_at_call 19; refine (akeep (Nm k) _ (D k).refs b most M F _ HL4.out.ar HR.out hrl).mono ?_; rintro e w4 ⟨rfl, ha, hk⟩; have HL5 := Lib.hid (HL4.out.arena ha hk); clear ha hk)
      all_goals
        go_wp2_with fail
        go_ret
        exact ⟨rfl, nd, _, _, _, _, _, _, _, _, _, _, by omega, HL5.out, HI3.out⟩
  · have hd : (decide (1 ≤ k) && decide (1 ≤ (D k).refs)) = false := by simp; omega
    rw [hd]
    clear hd
    go_wp2_with fail
    refine (akeep_no 0 b most M F _ HL2.out.ar (fun h => by omega)).mono ?_
    rintro e w' ⟨rfl, rfl⟩
    go_wp2_with fail
    go_ret
    exact ⟨rfl, nd, vC, vn, vm, D, K, Nm, mine, own, M, F, by omega, HL2.out, HI.out.up⟩
end

end Go.Proofs.Ytndbhcdiinpkkaa

/- Layer 4's law: an act that lets go. -/
import Derived.Test.YtndbhcdiinpkkaaKeepAct04
namespace Go.Proofs.Ytndbhcdiinpkkaa
open Go.RowKit

section
variable {w0 w w' : World} {wb b rb nd most L : Nat} {vC vn vm : Value} {D D' : Nat → Dc} {K : Nat → Value} {Nm mine own : Nat → Nat} {M : Cells} {F : Nat → Prop} {B : Nat}
/-- The document's counts have changed. -/
theorem MemD.docs (h : Mem w B wb b rb nd most vC vn vm D K Nm mine) (hd : Doc w' B rb nd most vC D' K) (hk : Kp (fun g => vC.ownBlock = some g) w w') : Mem w' B wb b rb nd most vC vn vm D' K Nm mine ∧ Kp (Lw wb rb nd vC vn vm K) w w' := by
  have ne : ∀ {g t : Nat} {cur : Array Value} {z : Nat × Nat}, vC.ownBlock = some g → w.heap[g]? = some (.cells cur t z) → t = 96 := fun {g t cur z} hg hh => by
    obtain ⟨cur', h'⟩ := own_type h.doc.cr g hg
    rw [hh] at h'
    simp only [Option.some.injEq, Obj.cells.injEq] at h'
    exact h'.2.1
  refine ⟨⟨h.wd.kp hk (fun e => absurd (ne e h.wd) (by decide)), hd, hk.own h.nr (fun g hg e => ?_), hk.own h.mr (fun g hg e => ?_), h.nm, h.kn, h.bw, h.br⟩, hk.mono (fun g e _ => .inr (.inr (.inl e)))⟩
  · obtain ⟨cur, hc⟩ := own_type h.nr g hg
    exact absurd (ne e hc) (by decide)
  · obtain ⟨cur, hc⟩ := own_type h.mr g hg
    exact absurd (ne e hc) (by decide)

set_option maxRecDepth 100000 in
set_option maxHeartbeats 1600000 in
theorem act_drop (kd i ow p q wo : Int) (hkd : kd % 4 = 2) (k0 : 0 ≤ kd) (k255 : kd ≤ 255) (hL : L ≤ 500) (hn : nd ≤ L) (h : Law w0 w wb b rb nd most vC vn vm D K Nm mine M F) (hI : Inv nd most L D Nm mine own M) :
    Calls Try.prog 11 #[wp' wb, aact kd i ow p q wo] w (Acted w0 wb b rb most L) := by
  have hm : ∀ k, mine k ≤ 1000 := fun k => by have := hI.mine_le k; omega
  have n1 := h.mem.doc.n1
  have n2 := h.mem.doc.n2
  have hkl := ix_lt n1 i
  have hix := ix_run n1 n2 i
  obtain ⟨k, hk⟩ : ∃ k, k = ix nd i := ⟨_, rfl⟩
  rw [← hk] at hkl hix
  clear hk
  have e0 : (kd % 4 == 0) = false := by simp; omega
  have e1 : (kd % 4 == 1) = false := by simp; omega
  have e2 : (kd % 4 == 2) = true := by simp; omega
  have HL := Lib.hid h
  have HI := Lib.hid hI
  clear h hI hkd
  go_enter Try.func11, Try.ntmps11
  go_wp2_with fail
  refine (lpair p q _ (HL.out.mem.alloc _) hm).mono ?_
  rintro e w1 ⟨x, y, hg, rfl, hb1⟩
  have hA := (C6.new w 38 (.int .u8 kd) (.int .i64 i) (.int .u32 ow) (.int .i64 p) (.int .i64 q) (.int .u32 wo)).below hb1
  have HL1 := Lib.hid ((HL.out.alloc (.cells #[.int .u8 kd, .int .i64 i, .int .u32 ow, .int .i64 p, .int .i64 q, .int .u32 wo] 38)).below hb1)
  have a0 := hA.c0
  have a1 := hA.c1
  have hal := hA.lt
  have m3 := HL1.out.mem.wd.c3
  have hwl := HL1.out.mem.wd.lt
  obtain ⟨gm, cm, hvm, hcm, hfm⟩ := HL1.out.mem.mineAt hkl
  rw [hvm] at m3
  clear hb1 HL hg
  go_wp2_with fail
  go_quiet (fail)
  rw [hix]
  generalize hw2 : (w1.alloc (.cells #[.int .i64 (x : Int), .int .i64 (y : Int)] 36)).drewN nq = w2
  have L2 : Law w0 w2 wb b rb nd most vC vn vm D K Nm mine M F := hw2 ▸ (HL1.out.alloc _).below (below_drewN _ _)
  have A2 : C6 w2 w.heap.size 38 (.int .u8 kd) (.int .i64 i) (.int .u32 ow) (.int .i64 p) (.int .i64 q) (.int .u32 wo) := hw2 ▸ (hA.alloc _).below (below_drewN _ _)
  obtain ⟨z, hz⟩ : ∃ z, z = w.heap.size := ⟨_, rfl⟩
  obtain ⟨zl, hzl⟩ : ∃ zl, zl = w1.heap.size := ⟨_, rfl⟩
  rw [← hz] at A2 ⊢
  rw [← hzl]
  clear hz hzl hw2 HL1 hA a0 a1 hal m3 hwl hcm hfm hix
  have b0 := A2.c0
  have d1 := L2.mem.wd.c1
  have HL2 := Lib.hid L2
  clear L2 A2
  have m3 := HL2.out.mem.wd.c3
  have m0 := HL2.out.mem.wd.c0
  obtain ⟨gm, cm, hvm, hcm, hfm⟩ := HL2.out.mem.mineAt hkl
  rw [hvm] at m3
  by_cases hmk : mine k = 0
  · have hmk' : (mine k : Int) = 0 := by omega
    go_wp2_with fail
    refine (adrop_no (-1) b most M F _ HL2.out.ar (fun h => by omega)).mono ?_
    rintro e w' ⟨rfl, rfl⟩
    go_wp2_with fail
    go_ret
    exact ⟨rfl, nd, vC, vn, vm, D, K, Nm, mine, own, M, F, by omega, HL2.out, HI.out.up⟩
  · have hmk' : ¬ (mine k : Int) = 0 := by omega
    have hmle := hm k
    obtain ⟨k2, hrk, _⟩ := HI.out.held (k := k) (by omega)
    obtain ⟨s1, t1⟩ := HL2.out.mem.setMine hkl (mine k - 1) hvm
    have e3 : ((mine k - 1 : Nat) : Int) = (mine k : Int) - 1 := by omega
    rw [e3] at s1 t1
    have HL3 := Lib.hid (HL2.out.numbers s1 t1)
    have u1 := s1.wd.c1
    clear s1 t1 e3
    have hown : 1 ≤ own (Nm k) := by rw [HI.out.ow k k2 hrk]; omega
    have hgive := HI.out.ok.give hown
    obtain ⟨rk, hrank⟩ := HI.out.ok.rank
    have hlim : ∀ j, (D j).refs ≤ 1000 := fun j => by have := HI.out.lim j; omega
    have HG := Lib.hid hgive
    have HRK := Lib.hid hrank
    have HLIM := Lib.hid hlim
    clear hgive hrank hlim hown
    go_wp2_with fail
    refine (ref_drop (nx := nx) (N := most + 1) (own := fun i => own i - if i = Nm k then 1 else 0) rk (rk (Nm k) + 1) k _ D M [] HL3.out.mem.doc HI.out.rel HG.out HRK.out k2 hrk HLIM.out (by omega)).mono ?_
    rintro e w4 ⟨D4, M4, rfl, hD4, hR4, hO4, hS4, hL4, hK4⟩
    obtain ⟨s4, t4⟩ := HL3.out.mem.docs hD4 hK4
    have HL4 := Lib.hid (HL3.out.numbers s4 t4)
    have HI4 := Lib.hid ((HI.out.drop (k := k) (by omega) hR4 hO4 hL4).up)
    have HU := Lib.hid (show ∀ M5, Drops M [Nm k] M5 → M5 = M4 from fun M5 hd => by
      obtain ⟨o5, s5⟩ := hd.ok HG.out
      exact o5.unique hO4 s5 hS4 ⟨rk, HRK.out⟩ HI.out.ok.top)
    have v0 := s4.wd.c0
    have v2 := s4.wd.c2
    obtain ⟨gn, cn, hvn, vcn⟩ := s4.nameAt hkl
    rw [hvn] at v2
    have HNE := Lib.hid (HI.out.rel.ne k2 hrk)
    have HRF := Lib.hid (show ∀ j, rf (M j) ≤ 4611686018427387904 from fun j => Nat.le_trans (HI.out.rf_le j) (by omega))
    clear s4 t4 hD4 hR4 hO4 hS4 hL4 hK4 u1 m3 m0 hcm hfm d1 b0 HG HRK HLIM HL3 HL2
    have HL5 := Lib.hid (HL4.out.below (w' := w4.drew) (Below.refl _ _).drew)
    have y3 : (0 : Int) ≤ (k : Int) := by omega
    have y4 : (k : Int) < (nd : Int) := by omega
    go_wp2_with fail
    go_region_with (go_at_call 13; refine (adrop (Nm k) b most M F _ HL5.out.ar HNE.out HRF.out).mono ?_; rintro e w5 ⟨rfl, M5, hd, ha, hk⟩; have hM5 := HU.out M5 hd; rw [hM5] at ha; have HL6 := Lib.hid (HL5.out.arena ha hk); clear ha hk hd hM5)
    all_goals
      go_wp2_with fail
      go_ret
      exact ⟨rfl, nd, _, _, _, _, _, _, _, _, _, _, by omega, HL6.out, HI4.out⟩
end

end Go.Proofs.Ytndbhcdiinpkkaa

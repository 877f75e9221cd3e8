/- Layer 4's law: an act that makes a cell, where there is no room. -/
import Derived.Test.YtndbhcdiinpkkaaDropAct04
import Derived.Deep.Cut
namespace Go.Proofs.Ytndbhcdiinpkkaa
open Go.RowKit

section
variable {w0 w w' : World} {wb b rb nd most L : Nat} {vC vn vm : Value} {D D' : Nat → Dc} {K : Nat → Value} {Nm mine own : Nat → Nat} {M : Cells} {F : Nat → Prop} {B : Nat}
set_option maxRecDepth 100000 in
set_option maxHeartbeats 1600000 in
theorem act_full (kd i ow p q wo : Int) (hkd : kd % 4 = 0) (k0 : 0 ≤ kd) (k255 : kd ≤ 255) (ho1 : 0 ≤ ow) (ho2 : ow ≤ 4294967295) (hw1 : 0 ≤ wo) (hw2 : wo ≤ 4294967295) (hL : L ≤ 500) (hn : nd ≤ L) (h : Law w0 w wb b rb nd most vC vn vm D K Nm mine M F) (hI : Inv nd most L D Nm mine own M) (hfull : live (most + 1) M = most) :
    Calls Try.prog 11 #[wp' wb, aact kd i ow p q wo] w (Acted w0 wb b rb most L) := by
  have hm : ∀ k, mine k ≤ 1000 := fun k => by have := hI.mine_le k; omega
  have n1 := h.mem.doc.n1
  have n2 := h.mem.doc.n2
  have hkl := ix_lt n1 i
  have hix := ix_run n1 n2 i
  obtain ⟨k, hk⟩ : ∃ k, k = ix nd i := ⟨_, rfl⟩
  rw [← hk] at hkl hix
  clear hk
  have e0 : (kd % 4 == 0) = true := by simp; omega
  have HL := Lib.hid h
  have HI := Lib.hid hI
  clear h hI hkd
  go_enter Try.func11, Try.ntmps11
  go_wp2_with fail
  refine (lpair p q _ (HL.out.mem.alloc _) hm).mono ?_
  rintro e w1 ⟨x, y, hg, rfl, hb1⟩
  have hA := (C6.new w 38 (.int .u8 kd) (.int .i64 i) (.int .u32 ow) (.int .i64 p) (.int .i64 q) (.int .u32 wo)).below hb1
  have HL1 := Lib.hid ((HL.out.alloc (.cells #[.int .u8 kd, .int .i64 i, .int .u32 ow, .int .i64 p, .int .i64 q, .int .u32 wo] 38)).below hb1)
  have a0 := hA.c0
  have a1 := hA.c1
  have hal := hA.lt
  have m3 := HL1.out.mem.wd.c3
  have hwl := HL1.out.mem.wd.lt
  obtain ⟨gm, cm, hvm, hcm, hfm⟩ := HL1.out.mem.mineAt hkl
  rw [hvm] at m3
  have HGV := Lib.hid hg
  have hFz := Lib.hid (show ∀ g, F g ∨ Lw wb rb nd vC vn vm K g → g < w.heap.size from fun g hg => hg.elim (fun e => HL.out.ar.lt e) (fun e => (HL.out.mem.lt e).2))
  have hz1 : w.heap.size < w1.heap.size := by have := hb1.size; simp at this; omega
  have hw0 := Lib.hid HL.out.bel.size
  clear hb1 HL hg
  go_wp2_with fail
  go_quiet (fail)
  rw [hix]
  generalize hw2 : (w1.alloc (.cells #[.int .i64 (x : Int), .int .i64 (y : Int)] 36)).drewN nq = w2
  have L2 : Law w0 w2 wb b rb nd most vC vn vm D K Nm mine M F := hw2 ▸ (HL1.out.alloc _).below (below_drewN _ _)
  have B2 : C2 w2 w1.heap.size 36 (.int .i64 (x : Int)) (.int .i64 (y : Int)) := hw2 ▸ (C2.new w1 _ _ _).below (below_drewN _ _)
  have A2 : C6 w2 w.heap.size 38 (.int .u8 kd) (.int .i64 i) (.int .u32 ow) (.int .i64 p) (.int .i64 q) (.int .u32 wo) := hw2 ▸ (hA.alloc _).below (below_drewN _ _)
  obtain ⟨z, hz⟩ : ∃ z, z = w.heap.size := ⟨_, rfl⟩
  obtain ⟨zl, hzl⟩ : ∃ zl, zl = w1.heap.size := ⟨_, rfl⟩
  rw [← hz] at A2 hFz hz1 hw0 ⊢
  rw [← hzl] at B2 hz1 ⊢
  clear hz hzl hw2 HL1 hA a0 a1 hal m3 hwl hcm hfm hix
  obtain ⟨b0, b1, b2, b3, b4, b5, _⟩ := A2.all
  have l0 := B2.c0
  have l1 := B2.c1
  have HL2 := Lib.hid L2
  have HA2 := Lib.hid A2
  have HB2 := Lib.hid B2
  clear L2 A2 B2
  go_wp2_with fail
  refine (lcell kd i ow p q wo x y _ HL2.out.mem HGV.out.1 HGV.out.2.1 ho1 ho2 hw1 hw2).mono ?_
  rintro e w3 ⟨v, kv, rfl, hv, hkv, hv2, hk2, hb3⟩
  obtain ⟨Av, cv', rfl, _⟩ := hv.form
  obtain ⟨Ak, ck, rfl, _⟩ := hkv.form
  have HL3 := Lib.hid (HL2.out.below hb3)
  have HA3 := Lib.hid (HA2.out.below hb3)
  have HB3 := Lib.hid (HB2.out.below hb3)
  have HV3 := Lib.hid hv
  have HK3 := Lib.hid hkv
  have HN3 := Lib.hid (show (∀ g, (Value.slice Av 1 cv').ownBlock = some g → ¬ F g) ∧ (∀ g, (Value.slice Ak 2 ck).ownBlock = some g → ¬ F g) from ⟨fun g hg hf => by have := hv2 g hg; have := HL2.out.ar.lt hf; omega, fun g hg hf => by have := hk2 g hg; have := HL2.out.ar.lt hf; omega⟩)
  clear HL2 HA2 HB2 hv hkv hv2 hk2 hb3 b0 b1 b2 b3 b4 b5 l0 l1
  go_wp2_with fail
  generalize hw4 : w3.alloc (.cells #[.int .u32 (ow % 3), .int .u32 wo, .int .u32 (nx wo), .slice Av 1 cv', .slice Ak 2 ck] 47) = w4
  have L4 : Law w0 w4 wb b rb nd most vC vn vm D K Nm mine M F := hw4 ▸ HL3.out.alloc _
  have A4 : C6 w4 z 38 (.int .u8 kd) (.int .i64 i) (.int .u32 ow) (.int .i64 p) (.int .i64 q) (.int .u32 wo) := hw4 ▸ HA3.out.alloc _
  have B4 : C2 w4 zl 36 (.int .i64 (x : Int)) (.int .i64 (y : Int)) := hw4 ▸ HB3.out.alloc _
  have C4' : C5 w4 w3.heap.size 47 (.int .u32 (ow % 3)) (.int .u32 wo) (.int .u32 (nx wo)) (.slice Av 1 cv') (.slice Ak 2 ck) := hw4 ▸ C5.new w3 _ _ _ _ _ _
  have V4 : Rd w4 (.slice Av 1 cv') 1 [.int .u8 2, .int .i64 wo, .string ⟨#[]⟩] := hw4 ▸ HV3.out.alloc _
  have K4 : Rd w4 (.slice Ak 2 ck) 2 (nums (ns [Nm x, Nm y])) := hw4 ▸ HK3.out.alloc _
  obtain ⟨zc, hzc⟩ : ∃ zc, zc = w3.heap.size := ⟨_, rfl⟩
  rw [← hzc] at C4' ⊢
  clear hw4 hzc HL3 HA3 HB3 HV3 HK3
  have HL4 := Lib.hid L4
  have HA4 := Lib.hid A4
  have HB4 := Lib.hid B4
  have HK4 := Lib.hid K4
  have HV4 := Lib.hid V4
  obtain ⟨c0, c1, c2, c3, c4, _⟩ := C4'.all
  have m0 := L4.mem.wd.c0
  have hgood := Lib.hid (HI.out.good HGV.out)
  have HF := Lib.hid hfull
  have HL5 := Lib.hid (L4.below (w' := w4.drew) (Below.refl _ _).drew)
  have HK5 := Lib.hid (show Rd w4.drew (.slice Ak 2 ck) (ns [Nm x, Nm y]).length (nums (ns [Nm x, Nm y])) from K4)
  have hlen2 := Lib.hid (show (ns [Nm x, Nm y]).length ≤ 4194304 by rw [ns_length]; show 2 ≤ 4194304; decide)
  clear L4 A4 B4 K4 V4 C4' hfull
  go_region_with (go_at_call 16; go_loud (refine (make_full _ _ _ _ _ (ns [Nm x, Nm y]) b most M F _ HL5.out.ar HK5.out hlen2.out hgood.out HF.out).mono ?_; rintro e w5 ⟨rfl, hb5⟩; have HL6 := Lib.hid (HL5.out.below hb5); have HA6 := Lib.hid ((show C6 w4.drew z 38 (.int .u8 kd) (.int .i64 i) (.int .u32 ow) (.int .i64 p) (.int .i64 q) (.int .u32 wo) from HA4.out).below hb5); have HB6 := Lib.hid ((show C2 w4.drew zl 36 (.int .i64 (x : Int)) (.int .i64 (y : Int)) from HB4.out).below hb5); clear hb5))
  all_goals
    have g1 := HL6.out.mem.wd.c1
    have g2 := HA6.out.c2
    have g5 := HA6.out.c5
    have hlim := Lib.hid (show ∀ j, (D j).refs ≤ 1000 from fun j => by have := HI.out.lim j; omega)
    have hfl := Lib.hid (show most ≤ dlive nd D from by rw [← HI.out.live, HF.out]; exact Nat.le_refl _)
    clear c0 c1 c2 c3 c4 m0
    go_wp2_with fail
    go_quiet ((go_at_call 39; exact Calls.quiet_of (ref_full _ _ _ _ (HL6.out.mem.doc.below (below_drewN _ _)) hlim.out hfl.out)))
    go_wp2_with fail
    go_ret
    exact ⟨rfl, nd, vC, vn, vm, D, K, Nm, mine, own, M, F, by omega, HL6.out.below (below_drewN _ _), HI.out.up⟩
end

end Go.Proofs.Ytndbhcdiinpkkaa

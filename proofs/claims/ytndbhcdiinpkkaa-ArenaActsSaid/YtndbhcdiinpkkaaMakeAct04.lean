/- Layer 4's law: an act that makes a cell. -/
import Derived.Test.YtndbhcdiinpkkaaFullAct04
import Derived.Deep.RegionHeldLaw
import Derived.Test.YtndbhcdiinpkkaaUntil
import Derived.Test.YtndbhcdiinpkkaaAdd04
namespace Go.Proofs.Ytndbhcdiinpkkaa
open Go.RowKit

section
variable {w0 w w' : World} {wb b rb nd most L : Nat} {vC vn vm : Value} {D D' : Nat → Dc} {K : Nat → Value} {Nm mine own : Nat → Nat} {M : Cells} {F : Nat → Prop} {B : Nat}
/-- The document has one cell more. -/
theorem MemD.made {vC' kv : Value} {d : Dc} (h : Mem w B wb b rb nd most vC vn vm D K Nm mine) (hd : Doc w' B rb (nd + 1) most vC' (upd D nd d) (upd K nd kv)) (hk : Kp (fun g => g = rb ∨ vC.ownBlock = some g) w w') (h1 : ∀ g, vC'.ownBlock = some g → vC.ownBlock = some g ∨ w.heap.size ≤ g) (h2 : ∀ g, kv.ownBlock = some g → w.heap.size ≤ g) :
    MemD w' B wb b rb nd (nd + 1) most vC' vn vm (upd D nd d) (upd K nd kv) Nm mine ∧ Kp (Lw wb rb nd vC vn vm K) w w' ∧ (∀ g, Lw wb rb (nd + 1) vC' vn vm (upd K nd kv) g → Lw wb rb nd vC vn vm K g ∨ w.heap.size ≤ g) := by
  have ne : ∀ {g t : Nat} {cur : Array Value} {z : Nat × Nat}, (g = rb ∨ vC.ownBlock = some g) → w.heap[g]? = some (.cells cur t z) → t = 96 ∨ t = 90 := fun {g t cur z} hg hh => by
    rcases hg with rfl | hg
    · have h' := h.doc.rd
      unfold C2 at h'
      rw [hh] at h'
      simp only [Option.some.injEq, Obj.cells.injEq] at h'
      exact .inr h'.2.1
    · obtain ⟨cur', h'⟩ := own_type h.doc.cr g hg
      rw [hh] at h'
      simp only [Option.some.injEq, Obj.cells.injEq] at h'
      exact .inl h'.2.1
  have hK : ∀ k g, k < nd + 1 → (upd K nd kv k).ownBlock = some g → (k < nd ∧ (K k).ownBlock = some g) ∨ w.heap.size ≤ g := fun k g hk' hg => by
    by_cases e : k = nd
    · subst e; rw [upd_same] at hg; exact .inr (h2 g hg)
    · rw [upd_other _ _ e] at hg; exact .inl ⟨by omega, hg⟩
  refine ⟨⟨h.wd.kp hk (fun e => absurd (ne e h.wd) (by decide)), hd, hk.own h.nr (fun g hg e => ?_), hk.own h.mr (fun g hg e => ?_), h.nm, fun k k1 k2 g hg => ?_, h.bw, h.br⟩, hk.mono (fun g e _ => e.elim (fun e => .inr (.inl e)) (fun e => .inr (.inr (.inl e)))), fun g hg => ?_⟩
  · obtain ⟨cur, hc⟩ := own_type h.nr g hg
    exact absurd (ne e hc) (by decide)
  · obtain ⟨cur, hc⟩ := own_type h.mr g hg
    exact absurd (ne e hc) (by decide)
  · rcases hK k g k2 hg with ⟨e, e'⟩ | e
    · exact h.kn k k1 e g e'
    · exact ⟨fun e' => by have := (h.nr.lt g e').2; omega, fun e' => by have := (h.mr.lt g e').2; omega⟩
  · rcases hg with e | e | e | e | e | ⟨k, k1, k2, e⟩
    · exact .inl (.inl e)
    · exact .inl (.inr (.inl e))
    · rcases h1 g e with e | e
      · exact .inl (.inr (.inr (.inl e)))
      · exact .inr e
    · exact .inl (.inr (.inr (.inr (.inl e))))
    · exact .inl (.inr (.inr (.inr (.inr (.inl e)))))
    · rcases hK k g k2 e with ⟨e', e''⟩ | e'
      · exact .inl (.inr (.inr (.inr (.inr (.inr ⟨k, k1, e', e''⟩)))))
      · exact .inr e'

set_option maxRecDepth 100000 in
set_option maxHeartbeats 1600000 in
theorem act_make (kd i ow p q wo : Int) (hkd : kd % 4 = 0) (k0 : 0 ≤ kd) (k255 : kd ≤ 255) (ho1 : 0 ≤ ow) (ho2 : ow ≤ 4294967295) (hw1 : 0 ≤ wo) (hw2 : wo ≤ 4294967295) (hL : L ≤ 500) (hn : nd ≤ L) (h : Law w0 w wb b rb nd most vC vn vm D K Nm mine M F) (hI : Inv nd most L D Nm mine own M) (hfull : live (most + 1) M < most) (hm2 : most ≤ 1000) :
    Calls Try.prog 11 #[wp' wb, aact kd i ow p q wo] w (Acted w0 wb b rb most L) := by
  have hm : ∀ k, mine k ≤ 1000 := fun k => by have := hI.mine_le k; omega
  have n1 := h.mem.doc.n1
  have n2 := h.mem.doc.n2
  have hkl := ix_lt n1 i
  have hix := ix_run n1 n2 i
  obtain ⟨k, hk⟩ : ∃ k, k = ix nd i := ⟨_, rfl⟩
  rw [← hk] at hkl hix
  clear hk
  have e0 : (kd % 4 == 0) = true := by simp; omega
  have HL := Lib.hid h
  have HI := Lib.hid hI
  clear h hI hkd
  go_enter Try.func11, Try.ntmps11
  go_wp2_with fail
  refine (lpair p q _ (HL.out.mem.alloc _) hm).mono ?_
  rintro e w1 ⟨x, y, hg, rfl, hb1⟩
  have hA := (C6.new w 38 (.int .u8 kd) (.int .i64 i) (.int .u32 ow) (.int .i64 p) (.int .i64 q) (.int .u32 wo)).below hb1
  have HL1 := Lib.hid ((HL.out.alloc (.cells #[.int .u8 kd, .int .i64 i, .int .u32 ow, .int .i64 p, .int .i64 q, .int .u32 wo] 38)).below hb1)
  have a0 := hA.c0
  have a1 := hA.c1
  have hal := hA.lt
  have m3 := HL1.out.mem.wd.c3
  have hwl := HL1.out.mem.wd.lt
  obtain ⟨gm, cm, hvm, hcm, hfm⟩ := HL1.out.mem.mineAt hkl
  rw [hvm] at m3
  have HGV := Lib.hid hg
  have hFz := Lib.hid (show ∀ g, F g ∨ Lw wb rb nd vC vn vm K g → g < w.heap.size from fun g hg => hg.elim (fun e => HL.out.ar.lt e) (fun e => (HL.out.mem.lt e).2))
  have hz1 : w.heap.size < w1.heap.size := by have := hb1.size; simp at this; omega
  have hw0 := Lib.hid HL.out.bel.size
  clear hb1 HL hg
  go_wp2_with fail
  go_quiet (fail)
  rw [hix]
  generalize hw2 : (w1.alloc (.cells #[.int .i64 (x : Int), .int .i64 (y : Int)] 36)).drewN nq = w2
  have L2 : Law w0 w2 wb b rb nd most vC vn vm D K Nm mine M F := hw2 ▸ (HL1.out.alloc _).below (below_drewN _ _)
  have B2 : C2 w2 w1.heap.size 36 (.int .i64 (x : Int)) (.int .i64 (y : Int)) := hw2 ▸ (C2.new w1 _ _ _).below (below_drewN _ _)
  have A2 : C6 w2 w.heap.size 38 (.int .u8 kd) (.int .i64 i) (.int .u32 ow) (.int .i64 p) (.int .i64 q) (.int .u32 wo) := hw2 ▸ (hA.alloc _).below (below_drewN _ _)
  obtain ⟨z, hz⟩ : ∃ z, z = w.heap.size := ⟨_, rfl⟩
  obtain ⟨zl, hzl⟩ : ∃ zl, zl = w1.heap.size := ⟨_, rfl⟩
  rw [← hz] at A2 hFz hz1 hw0 ⊢
  rw [← hzl] at B2 hz1 ⊢
  clear hz hzl hw2 HL1 hA a0 a1 hal m3 hwl hcm hfm hix
  obtain ⟨b0, b1, b2, b3, b4, b5, _⟩ := A2.all
  have l0 := B2.c0
  have l1 := B2.c1
  have HL2 := Lib.hid L2
  have HA2 := Lib.hid A2
  have HB2 := Lib.hid B2
  clear L2 A2 B2
  go_wp2_with fail
  refine (lcell kd i ow p q wo x y _ HL2.out.mem HGV.out.1 HGV.out.2.1 ho1 ho2 hw1 hw2).mono ?_
  rintro e w3 ⟨v, kv, rfl, hv, hkv, hv2, hk2, hb3⟩
  obtain ⟨Av, cv', rfl, _⟩ := hv.form
  obtain ⟨Ak, ck, rfl, _⟩ := hkv.form
  have HL3 := Lib.hid (HL2.out.below hb3)
  have HA3 := Lib.hid (HA2.out.below hb3)
  have HB3 := Lib.hid (HB2.out.below hb3)
  have HV3 := Lib.hid hv
  have HK3 := Lib.hid hkv
  have HN3 := Lib.hid (show (∀ g, (Value.slice Av 1 cv').ownBlock = some g → ¬ F g) ∧ (∀ g, (Value.slice Ak 2 ck).ownBlock = some g → ¬ F g) from ⟨fun g hg hf => by have := hv2 g hg; have := HL2.out.ar.lt hf; omega, fun g hg hf => by have := hk2 g hg; have := HL2.out.ar.lt hf; omega⟩)
  clear HL2 HA2 HB2 hv hkv hv2 hk2 hb3 b0 b1 b2 b3 b4 b5 l0 l1
  go_wp2_with fail
  generalize hw4 : w3.alloc (.cells #[.int .u32 (ow % 3), .int .u32 wo, .int .u32 (nx wo), .slice Av 1 cv', .slice Ak 2 ck] 47) = w4
  have L4 : Law w0 w4 wb b rb nd most vC vn vm D K Nm mine M F := hw4 ▸ HL3.out.alloc _
  have A4 : C6 w4 z 38 (.int .u8 kd) (.int .i64 i) (.int .u32 ow) (.int .i64 p) (.int .i64 q) (.int .u32 wo) := hw4 ▸ HA3.out.alloc _
  have B4 : C2 w4 zl 36 (.int .i64 (x : Int)) (.int .i64 (y : Int)) := hw4 ▸ HB3.out.alloc _
  have C4' : C5 w4 w3.heap.size 47 (.int .u32 (ow % 3)) (.int .u32 wo) (.int .u32 (nx wo)) (.slice Av 1 cv') (.slice Ak 2 ck) := hw4 ▸ C5.new w3 _ _ _ _ _ _
  have V4 : Rd w4 (.slice Av 1 cv') 1 [.int .u8 2, .int .i64 wo, .string ⟨#[]⟩] := hw4 ▸ HV3.out.alloc _
  have K4 : Rd w4 (.slice Ak 2 ck) 2 (nums (ns [Nm x, Nm y])) := hw4 ▸ HK3.out.alloc _
  have hzcl : z < w3.heap.size := HA3.out.lt
  obtain ⟨zc, hzc⟩ : ∃ zc, zc = w3.heap.size := ⟨_, rfl⟩
  rw [← hzc] at C4' hzcl ⊢
  clear hw4 hzc HL3 HA3 HB3 HV3 HK3
  have HL4 := Lib.hid L4
  have HA4 := Lib.hid A4
  have HB4 := Lib.hid B4
  have HK4 := Lib.hid K4
  have HV4 := Lib.hid V4
  obtain ⟨c0, c1, c2, c3, c4, _⟩ := C4'.all
  have m0 := L4.mem.wd.c0
  have hgood := Lib.hid (HI.out.good HGV.out)
  have HL5 := Lib.hid (L4.below (w' := w4.drew) (Below.refl _ _).drew)
  have HK5 := Lib.hid (show Rd w4.drew (.slice Ak 2 ck) (cellOf nx Nm ⟨x, y, 1, ow % 3, wo⟩).kids.length (nums (ns (cellOf nx Nm ⟨x, y, 1, ow % 3, wo⟩).kids)) from K4)
  have HV5 := Lib.hid (show Rd w4.drew (.slice Av 1 cv') (cellOf nx Nm ⟨x, y, 1, ow % 3, wo⟩).vals.length ((cellOf nx Nm ⟨x, y, 1, ow % 3, wo⟩).vals.flatMap cells3) from V4)
  have n5 : 1 ≤ 4194304 := by decide
  have n6 : 2 ≤ 4194304 := by decide
  have hzc' : ¬ F zc := fun hf => by have := hFz.out zc (.inl hf); omega
  have hwF : ¬ F wb := HL5.out.sep wb (.inl rfl)
  have HS0 := Lib.hid (show Has [(⟨wb, 0, none⟩, ap b), (⟨zc, 0, none⟩, .int .u32 (ow % 3)), (⟨zc, 1, none⟩, .int .u32 wo), (⟨zc, 2, none⟩, .int .u32 (nx wo)), (⟨zc, 3, none⟩, .slice Av 1 cv'), (⟨zc, 4, none⟩, .slice Ak 2 ck)] w4.drew from fun p' hp => by
    simp at hp
    rcases hp with rfl | rfl | rfl | rfl | rfl | rfl
    · exact m0
    · exact c0
    · exact c1
    · exact c2
    · exact c3
    · exact c4)
  have HSk := Lib.hid (show ∀ W W', Has [(⟨wb, 0, none⟩, ap b), (⟨zc, 0, none⟩, .int .u32 (ow % 3)), (⟨zc, 1, none⟩, .int .u32 wo), (⟨zc, 2, none⟩, .int .u32 (nx wo)), (⟨zc, 3, none⟩, .slice Av 1 cv'), (⟨zc, 4, none⟩, .slice Ak 2 ck)] W → Kp F W W' → Has [(⟨wb, 0, none⟩, ap b), (⟨zc, 0, none⟩, .int .u32 (ow % 3)), (⟨zc, 1, none⟩, .int .u32 wo), (⟨zc, 2, none⟩, .int .u32 (nx wo)), (⟨zc, 3, none⟩, .slice Av 1 cv'), (⟨zc, 4, none⟩, .slice Ak 2 ck)] W' from fun W W' h hk => h.kp hk fun p' hp => by
    simp at hp
    rcases hp with rfl | rfl | rfl | rfl | rfl | rfl
    · exact hwF
    all_goals exact hzc')
  clear L4 A4 B4 K4 V4 C4' c0 c1 c2 c3 c4 m0
  have r0 : ∀ W, Has [(⟨wb, 0, none⟩, ap b), (⟨zc, 0, none⟩, .int .u32 (ow % 3)), (⟨zc, 1, none⟩, .int .u32 wo), (⟨zc, 2, none⟩, .int .u32 (nx wo)), (⟨zc, 3, none⟩, .slice Av 1 cv'), (⟨zc, 4, none⟩, .slice Ak 2 ck)] W → W.cell? ⟨wb, 0, none⟩ = some (ap b) := fun W h => h (⟨wb, 0, none⟩, ap b) (by simp)
  have r1 : ∀ W, Has [(⟨wb, 0, none⟩, ap b), (⟨zc, 0, none⟩, .int .u32 (ow % 3)), (⟨zc, 1, none⟩, .int .u32 wo), (⟨zc, 2, none⟩, .int .u32 (nx wo)), (⟨zc, 3, none⟩, .slice Av 1 cv'), (⟨zc, 4, none⟩, .slice Ak 2 ck)] W → W.cell? ⟨zc, 0, none⟩ = some (.int .u32 (ow % 3)) := fun W h => h (⟨zc, 0, none⟩, .int .u32 (ow % 3)) (by simp)
  have r2 : ∀ W, Has [(⟨wb, 0, none⟩, ap b), (⟨zc, 0, none⟩, .int .u32 (ow % 3)), (⟨zc, 1, none⟩, .int .u32 wo), (⟨zc, 2, none⟩, .int .u32 (nx wo)), (⟨zc, 3, none⟩, .slice Av 1 cv'), (⟨zc, 4, none⟩, .slice Ak 2 ck)] W → W.cell? ⟨zc, 1, none⟩ = some (.int .u32 wo) := fun W h => h (⟨zc, 1, none⟩, .int .u32 wo) (by simp)
  have r3 : ∀ W, Has [(⟨wb, 0, none⟩, ap b), (⟨zc, 0, none⟩, .int .u32 (ow % 3)), (⟨zc, 1, none⟩, .int .u32 wo), (⟨zc, 2, none⟩, .int .u32 (nx wo)), (⟨zc, 3, none⟩, .slice Av 1 cv'), (⟨zc, 4, none⟩, .slice Ak 2 ck)] W → W.cell? ⟨zc, 2, none⟩ = some (.int .u32 (nx wo)) := fun W h => h (⟨zc, 2, none⟩, .int .u32 (nx wo)) (by simp)
  have r4 : ∀ W, Has [(⟨wb, 0, none⟩, ap b), (⟨zc, 0, none⟩, .int .u32 (ow % 3)), (⟨zc, 1, none⟩, .int .u32 wo), (⟨zc, 2, none⟩, .int .u32 (nx wo)), (⟨zc, 3, none⟩, .slice Av 1 cv'), (⟨zc, 4, none⟩, .slice Ak 2 ck)] W → W.cell? ⟨zc, 3, none⟩ = some (.slice Av 1 cv') := fun W h => h (⟨zc, 3, none⟩, .slice Av 1 cv') (by simp)
  have r5 : ∀ W, Has [(⟨wb, 0, none⟩, ap b), (⟨zc, 0, none⟩, .int .u32 (ow % 3)), (⟨zc, 1, none⟩, .int .u32 wo), (⟨zc, 2, none⟩, .int .u32 (nx wo)), (⟨zc, 3, none⟩, .slice Av 1 cv'), (⟨zc, 4, none⟩, .slice Ak 2 ck)] W → W.cell? ⟨zc, 4, none⟩ = some (.slice Ak 2 ck) := fun W h => h (⟨zc, 4, none⟩, .slice Ak 2 ck) (by simp)
  go_region_held (fun W => Has [(⟨wb, 0, none⟩, ap b), (⟨zc, 0, none⟩, .int .u32 (ow % 3)), (⟨zc, 1, none⟩, .int .u32 wo), (⟨zc, 2, none⟩, .int .u32 (nx wo)), (⟨zc, 3, none⟩, .slice Av 1 cv'), (⟨zc, 4, none⟩, .slice Ak 2 ck)] W)
    (first | with_reducible assumption | with_reducible exact HS0.out | (rename Has _ _ => hH; with_reducible exact HSk.out _ _ hH hby))
    ((go_at_call 16; refine (amake (cellOf nx Nm ⟨x, y, 1, ow % 3, wo⟩) _ _ b most M F _ HL5.out.ar HV5.out HK5.out n5 n6 HN3.out.1 HN3.out.2 hgood.out hfull).mono ?_; rintro e wy ⟨ii, rfl, i1, i2, i3, ha, hby⟩))
  rename Has _ _ => hH
  have HL6 := Lib.hid (HL5.out.arena ha hby)
  have HA6 := Lib.hid ((show C6 w4.drew z 38 (.int .u8 kd) (.int .i64 i) (.int .u32 ow) (.int .i64 p) (.int .i64 q) (.int .u32 wo) from HA4.out).kp hby (fun hf => by have := hFz.out z (.inl hf); omega))
  have HB6 := Lib.hid ((show C2 w4.drew zl 36 (.int .i64 (x : Int)) (.int .i64 (y : Int)) from HB4.out).kp hby (fun hf => by have := hFz.out zl (.inl hf); omega))
  have hi1' := Lib.hid i1
  have HI6 := Lib.hid (HI.out.make (i := ii) (ow := ow % 3) (wo := wo) n1 HGV.out i1 i2 i3 ⟨hw1, hw2⟩)
  have hdl := Lib.hid (show dlive nd D < most by rw [← HI.out.live]; exact hfull)
  have hlim := Lib.hid (show ∀ j, (D j).refs ≤ 1000 from fun j => by have := HI.out.lim j; omega)
  clear hH r0 r1 r2 r3 r4 r5 HS0 HSk HL5 HK5 HV5 ha hby HA4 HB4 HV4 HK4 HL4 hgood hzc' hwF HN3
  have z0 : ¬ z = rb ∧ ¬ vC.ownBlock = some z := ⟨fun e => by have := hFz.out z (.inr (.inr (.inl e))); omega, fun e => by have := hFz.out z (.inr (.inr (.inr (.inl e)))); omega⟩
  have zl0 : ¬ zl = rb ∧ ¬ vC.ownBlock = some zl := ⟨fun e => by have := hFz.out zl (.inr (.inr (.inl e))); omega, fun e => by have := hFz.out zl (.inr (.inr (.inr (.inl e)))); omega⟩
  have wb0 : ¬ wb = rb ∧ ¬ vC.ownBlock = some wb := ⟨ne_types HL6.out.mem.wd HL6.out.mem.doc.rd (by decide), fun e => own_ne HL6.out.mem.doc.cr HL6.out.mem.wd (by decide) wb e rfl⟩
  have hRk := Lib.hid (show Rd wy.drew (.slice (some ⟨zl, 0, none⟩) 2 2) 2 (nums [(x : Int), (y : Int)]) from .inr ⟨zl, 0, 2, rfl, Nat.le_refl _, fun j u hu => by
    match j, hu with
    | 0, hu => simp [nums] at hu; subst hu; exact HB6.out.c0
    | 1, hu => simp [nums] at hu; subst hu; exact HB6.out.c1⟩)
  obtain ⟨l7, hl7⟩ : ∃ l : List (Addr × Value), l = [(⟨wb, 1, none⟩, rp rb), (⟨z, 2, none⟩, .int .u32 ow), (⟨z, 5, none⟩, .int .u32 wo)] := ⟨_, rfl⟩
  have HS0 := Lib.hid (show Has l7 wy.drew from fun p' hp => by
    rw [hl7] at hp
    simp at hp
    rcases hp with rfl | rfl | rfl
    · exact HL6.out.mem.wd.c1
    · exact HA6.out.c2
    · exact HA6.out.c5)
  have HSk := Lib.hid (show ∀ W W', Has l7 W → Kp (fun g => g = rb ∨ vC.ownBlock = some g) W W' → Has l7 W' from fun W W' h hk => h.kp hk fun p' hp => by
    rw [hl7] at hp
    simp at hp
    rcases hp with rfl | rfl | rfl
    · exact not_or.2 wb0
    · exact not_or.2 z0
    · exact not_or.2 z0)
  have r0 : ∀ W, Has l7 W → W.cell? ⟨wb, 1, none⟩ = some (rp rb) := fun W h => h (⟨wb, 1, none⟩, rp rb) (by rw [hl7]; simp)
  have r1 : ∀ W, Has l7 W → W.cell? ⟨z, 2, none⟩ = some (.int .u32 ow) := fun W h => h (⟨z, 2, none⟩, .int .u32 ow) (by rw [hl7]; simp)
  have r2 : ∀ W, Has l7 W → W.cell? ⟨z, 5, none⟩ = some (.int .u32 wo) := fun W h => h (⟨z, 5, none⟩, .int .u32 wo) (by rw [hl7]; simp)
  have y2 : ow.tmod 3 = ow % 3 := Int.tmod_eq_emod_of_nonneg ho1
  have hndl : nd < 1000 := by omega
  have HD7 := Lib.hid (HL6.out.mem.doc.below (w' := wy.drew) (Below.refl _ _).drew)
  have hB7 := Lib.hid (show w0.heap.size ≤ wy.drew.heap.size from HL6.out.bel.size)
  clear hl7
  go_wp2_with fail
  go_region_held (fun W => Has l7 W)
    (first | with_reducible assumption | with_reducible exact HS0.out | (rename Has _ _ => hH; with_reducible exact HSk.out _ _ hH hby))
    ((go_at_call 39; refine (ref_make x y (ow % 3) wo _ _ HD7.out hlim.out hdl.out hndl hm2 hRk.out hB7.out).mono ?_; rintro e w7 ⟨vC7, kv7, rfl, hD7, hby, hv7, hk7⟩))
  rename Has _ _ => hH
  obtain ⟨s7, t7, u7⟩ := (HL6.out.mem.below (w' := wy.drew) (Below.refl _ _).drew).made hD7 hby hv7 hk7
  have HL7 := Lib.hid ((HL6.out.below (w' := wy.drew) (Below.refl _ _).drew).ours s7 t7 u7)
  have HB7 := Lib.hid ((show C2 wy.drew zl 36 (.int .i64 (x : Int)) (.int .i64 (y : Int)) from HB6.out).kp hby (not_or.2 zl0))
  clear hH r0 r1 r2 HS0 HSk HL6 HA6 HB6 hby hD7 hv7 hk7 s7 t7 u7 HD7 hRk hB7 z0 zl0 wb0 hdl
  have l0 := HB7.out.c0
  have l1 := HB7.out.c1
  have hnd0 : ¬ (nd : Int) = 0 := by omega
  go_wp2_with fail
  refine (lgive x y _ HL7.out.mem n2 hm HGV.out).mono ?_
  rintro e w8 ⟨rfl, hM8, hK8⟩
  have HL8 := Lib.hid (HL7.out.numbers hM8 hK8)
  clear hM8 hK8 HL7 HB7 l0 l1
  go_wp2_with fail
  obtain ⟨A7, m7, rfl, _⟩ := (Rd.of_own HL8.out.mem.nr).form
  subst hvm
  have k2 := HL8.out.mem.wd.c2
  have k3 := HL8.out.mem.wd.c3
  refine region_until (fun W => Has [(⟨wb, 2, none⟩, .slice A7 nd m7), (⟨wb, 3, none⟩, .slice (some ⟨gm, 0, none⟩) nd cm)] W) (fun j => j == 5 || j == 12 || j == 7 || j == 8 || j == 13 || j == 14) (by kernel_rfl) ?_
  refine Until.take (i := 0) (v := wp' wb) rfl (by kernel_rfl) (by kernel_rfl) (by kernel_rfl) (fun _ _ _ h => h) rfl (Or.inl ⟨by rfl, fun w => by go_simp⟩) ?_
  go_simp
  refine Until.take (i := 1) (v := wp' wb) rfl (by kernel_rfl) (by kernel_rfl) (by kernel_rfl) (fun _ _ _ h => h) rfl (Or.inl ⟨by rfl, fun w => by go_simp⟩) ?_
  go_simp
  refine Until.take (i := 2) (v := wp' wb) rfl (by kernel_rfl) (by kernel_rfl) (by kernel_rfl) (fun _ _ _ h => h) rfl (Or.inl ⟨by rfl, fun w => by go_simp⟩) ?_
  go_simp
  refine Until.take (i := 3) (v := (.pointer (some ⟨wb, 0, none⟩))) rfl (by kernel_rfl) (by kernel_rfl) (by kernel_rfl) (fun _ _ _ h => h) rfl (Or.inl ⟨by rfl, fun w => by go_simp⟩) ?_
  go_simp
  refine Until.take (i := 4) (v := (.pointer (some ⟨wb, 2, none⟩))) rfl (by kernel_rfl) (by kernel_rfl) (by kernel_rfl) (fun _ _ _ h => h) rfl (Or.inl ⟨by rfl, fun w => by go_simp⟩) ?_
  go_simp
  refine Until.take (i := 6) (v := (.int .i64 (ii : Int))) rfl (by kernel_rfl) (by kernel_rfl) (by kernel_rfl) (fun _ _ _ h => h) rfl (Or.inl ⟨by rfl, fun w => by go_simp⟩) ?_
  go_simp
  refine Until.take (i := 9) (v := wp' wb) rfl (by kernel_rfl) (by kernel_rfl) (by kernel_rfl) (fun _ _ _ h => h) rfl (Or.inl ⟨by rfl, fun w => by go_simp⟩) ?_
  go_simp
  refine Until.take (i := 10) (v := (.pointer (some ⟨wb, 0, none⟩))) rfl (by kernel_rfl) (by kernel_rfl) (by kernel_rfl) (fun _ _ _ h => h) rfl (Or.inl ⟨by rfl, fun w => by go_simp⟩) ?_
  go_simp
  refine Until.take (i := 11) (v := (.pointer (some ⟨wb, 3, none⟩))) rfl (by kernel_rfl) (by kernel_rfl) (by kernel_rfl) (fun _ _ _ h => h) rfl (Or.inl ⟨by rfl, fun w => by go_simp⟩) ?_
  go_simp
  have rl2 : ∀ W, Has [(⟨wb, 2, none⟩, .slice A7 nd m7), (⟨wb, 3, none⟩, .slice (some ⟨gm, 0, none⟩) nd cm)] W → W.cell? ⟨wb, 2, none⟩ = some (.slice A7 nd m7) := fun W h => h (⟨wb, 2, none⟩, .slice A7 nd m7) (by simp)
  have rl3 : ∀ W, Has [(⟨wb, 2, none⟩, .slice A7 nd m7), (⟨wb, 3, none⟩, .slice (some ⟨gm, 0, none⟩) nd cm)] W → W.cell? ⟨wb, 3, none⟩ = some (.slice (some ⟨gm, 0, none⟩) nd cm) := fun W h => h (⟨wb, 3, none⟩, .slice (some ⟨gm, 0, none⟩) nd cm) (by simp)
  have hS0 : Has [(⟨wb, 2, none⟩, .slice A7 nd m7), (⟨wb, 3, none⟩, .slice (some ⟨gm, 0, none⟩) nd cm)] w8.drew := fun p' hp => by
    simp at hp
    rcases hp with rfl | rfl
    · exact k2
    · exact k3
  refine Until.load (i := 5) (v := .slice A7 nd m7) rfl (by kernel_rfl) (by kernel_rfl) (by kernel_rfl) (fun _ _ _ h => h) (Or.inl ⟨by rfl, fun w hw => by have := rl2 w hw; go_simp⟩) hS0 ?_
  go_simp
  refine Until.load (i := 12) (v := .slice (some ⟨gm, 0, none⟩) nd cm) rfl (by kernel_rfl) (by kernel_rfl) (by kernel_rfl) (fun _ _ _ h => h) (Or.inl ⟨by rfl, fun w hw => by have := rl3 w hw; go_simp⟩) hS0 ?_
  go_simp
  obtain ⟨q1, hq1, hy0, hy1, hy2⟩ := info_parts iinfo
  have HQ1 := Lib.hid hq1
  have T0 := Lib.hid (Two.start HL8.out.mem.nr HL8.out.mem.mr HL8.out.mem.nm)
  have HH := Lib.hid (show ∀ W v1 v2 n m xn xm, Two w0.heap.size w8 (.slice A7 nd m7) (.slice (some ⟨gm, 0, none⟩) nd cm) W v1 v2 n m xn xm → Has [(⟨wb, 2, none⟩, .slice A7 nd m7), (⟨wb, 3, none⟩, .slice (some ⟨gm, 0, none⟩) nd cm)] W from fun W v1 v2 n m xn xm ht => Has.kp (W := w8) hS0 ht.kp (fun p' hp => by
    have hp' : p'.1.block = wb := by
      simp at hp
      rcases hp with rfl | rfl <;> rfl
    rw [hp']
    exact fun e => e.elim (fun e => own_ne HL8.out.mem.nr HL8.out.mem.wd (by decide) _ e rfl) (fun e => own_ne HL8.out.mem.mr HL8.out.mem.wd (by decide) _ e rfl)))
  have hn1 : nd + 1 ≤ maxLen := by unfold maxLen; omega
  have hn2 : (nd + 1) * 8 ≤ 140737488355328 := by omega
  have hB8 := Lib.hid HL8.out.bel.size
  clear hq1 rl2 rl3 hS0 k2 k3
  refine Until.all (rs := [7, 13]) (by kernel_rfl) (by simp) ?_
  intro j hj
  simp only [List.mem_cons, List.not_mem_nil, or_false] at hj
  rcases hj with rfl | rfl
  · refine wpOp_open rfl ?_
    intro K' hK'
    go_simp
    have T1 := Lib.hid (T0.out.alloc (.cells #[.int .i64 (ii : Int)] 3))
    have S1 := Lib.hid (T0.out.src (ii : Int) (w8.heap.size) (by simp))
    refine hK' _ _ ⟨fun _ => HH.out _ _ _ _ _ _ _ T1.out.drew, ?_⟩
    refine Until.all (rs := [8, 13]) (by kernel_rfl) (by simp) ?_
    intro j hj
    simp only [List.mem_cons, List.not_mem_nil, or_false] at hj
    rcases hj with rfl | rfl
    · refine wpOp_open rfl ?_
      intro K' hK'
      refine step_append_rd rfl _ _ 32 rfl w0.heap.size 3 q1 _ 1 8 Try.underlying32 HQ1.out hy0 hy1 hy2 rfl (by decide) (.slice A7 nd m7) nd (ints nd Nm) rfl T1.out.drew.on _ 1 [.int .i64 (ii : Int)] rfl S1.out.drew.rd rfl (by simp [Value.oneCell']) hn1 hn2 (Nat.le_trans hB8.out T1.out.drew.kp.size) ?_
      intro v' w' hown hg hat
      obtain ⟨A2, m2, rfl, _⟩ := (Rd.of_own hown).form
      have T2 := Lib.hid (T1.out.drew.first hown hg hat)
      clear hown hg hat
      obtain ⟨w2', hw2⟩ : ∃ W, W = w' := ⟨_, rfl⟩
      rw [← hw2] at T2  ⊢
      clear hw2
      refine hK' _ _ ⟨fun _ => HH.out _ _ _ _ _ _ _ T2.out, ?_⟩
      go_simp
      refine Until.all (rs := [13]) (by kernel_rfl) (by simp) ?_
      intro j hj
      simp only [List.mem_cons, List.not_mem_nil, or_false] at hj
      subst hj
      refine wpOp_open rfl ?_
      intro K' hK'
      go_simp
      have T3 := Lib.hid (T2.out.alloc (.cells #[.int .i64 (1 : Int)] 3))
      have S3 := Lib.hid (T2.out.src 1 (w2'.heap.size) (by simp))
      refine hK' _ _ ⟨fun _ => HH.out _ _ _ _ _ _ _ T3.out, ?_⟩
      refine Until.all (rs := [14]) (by kernel_rfl) (by simp) ?_
      intro j hj
      simp only [List.mem_cons, List.not_mem_nil, or_false] at hj
      subst hj
      refine wpOp_open rfl ?_
      intro K' hK'
      refine step_append_rd rfl _ _ 32 rfl w0.heap.size 3 q1 _ 1 8 Try.underlying32 HQ1.out hy0 hy1 hy2 rfl (by decide) (.slice (some ⟨gm, 0, none⟩) nd cm) nd (ints nd (dec (dec mine x) y)) rfl T3.out.om _ 1 [.int .i64 1] rfl S3.out.rd rfl (by simp [Value.oneCell']) hn1 hn2 (Nat.le_trans hB8.out T3.out.kp.size) ?_
      intro v' w' hown hg hat
      obtain ⟨A4, m4, rfl, _⟩ := (Rd.of_own hown).form
      have T4 := Lib.hid (T3.out.second hown hg hat)
      clear hown hg hat
      obtain ⟨w4', hw4⟩ : ∃ W, W = w' := ⟨_, rfl⟩
      rw [← hw4] at T4  ⊢
      clear hw4
      refine hK' _ _ ⟨fun _ => HH.out _ _ _ _ _ _ _ T4.out, ?_⟩
      go_simp
      have CW := HL8.out.mem.wdTwo T4.out
      have z2 := CW.c2
      have z3 := CW.c3
      have f2 := CW.fz 2
      have f3 := CW.fz 3
      have HN := Lib.hid (HL8.out.mem.named (i := ii) (j := 1) T4.out)
      clear CW
      refine Until.take (i := 15) (v := wp' wb) rfl (by kernel_rfl) (by kernel_rfl) (by kernel_rfl) (fun _ _ _ h => h) rfl (Or.inl ⟨by rfl, fun w => by go_simp⟩) ?_
      go_simp
      refine Until.take (i := 16) (v := (.pointer (some ⟨wb, 2, none⟩))) rfl (by kernel_rfl) (by kernel_rfl) (by kernel_rfl) (fun _ _ _ h => h) rfl (Or.inl ⟨by rfl, fun w => by go_simp⟩) ?_
      go_simp
      refine Until.all (rs := [17]) (by kernel_rfl) (by simp) ?_
      intro j hj
      simp only [List.mem_cons, List.not_mem_nil, or_false] at hj
      subst hj
      refine wpOp_open rfl ?_
      intro K' hK'
      go_simp
      refine hK' _ _ ⟨by simp, ?_⟩
      refine Until.take (i := 18) (v := wp' wb) rfl (by kernel_rfl) (by kernel_rfl) (by kernel_rfl) (fun _ _ _ h => h) rfl (Or.inl ⟨by rfl, fun w => by go_simp⟩) ?_
      go_simp
      refine Until.take (i := 19) (v := (.pointer (some ⟨wb, 3, none⟩))) rfl (by kernel_rfl) (by kernel_rfl) (by kernel_rfl) (fun _ _ _ h => h) rfl (Or.inl ⟨by rfl, fun w => by go_simp⟩) ?_
      go_simp
      refine Until.all (rs := [20]) (by kernel_rfl) (by simp) ?_
      intro j hj
      simp only [List.mem_cons, List.not_mem_nil, or_false] at hj
      subst hj
      refine wpOp_open rfl ?_
      intro K' hK'
      go_simp
      refine hK' _ _ ⟨by simp, ?_⟩
      refine Until.done (by kernel_rfl) ?_
      clear z2 z3 f2 f3
      go_wp2_with fail
      go_ret
      exact ⟨ret_bool (by have := hi1'.out; simp; omega), nd + 1, _, _, _, _, _, _, _, _, _, _, by omega, HL8.out.ours HN.out.1 HN.out.2.1 HN.out.2.2, HI6.out⟩
    · refine wpOp_open rfl ?_
      intro K' hK'
      go_simp
      have T5 := Lib.hid (T1.out.alloc (.cells #[.int .i64 (1 : Int)] 3))
      have S5 := Lib.hid (T1.out.src 1 (w8.heap.size + 1) (by simp))
      have S7_5 := Lib.hid (S1.out.alloc (.cells #[.int .i64 (1 : Int)] 3))
      refine hK' _ _ ⟨fun _ => HH.out _ _ _ _ _ _ _ T5.out.drew, ?_⟩
      refine Until.all (rs := [8]) (by kernel_rfl) (by simp) ?_
      intro j hj
      simp only [List.mem_cons, List.not_mem_nil, or_false] at hj
      subst hj
      refine wpOp_open rfl ?_
      intro K' hK'
      refine step_append_rd rfl _ _ 32 rfl w0.heap.size 3 q1 _ 1 8 Try.underlying32 HQ1.out hy0 hy1 hy2 rfl (by decide) (.slice A7 nd m7) nd (ints nd Nm) rfl T5.out.drew.on _ 1 [.int .i64 (ii : Int)] rfl S7_5.out.drew.rd rfl (by simp [Value.oneCell']) hn1 hn2 (Nat.le_trans hB8.out T5.out.drew.kp.size) ?_
      intro v' w' hown hg hat
      obtain ⟨A6, m6, rfl, _⟩ := (Rd.of_own hown).form
      have T6 := Lib.hid (T5.out.drew.first hown hg hat)
      have S13_6 := Lib.hid (S5.out.drew.first (v' := .slice A6 (nd + 1) m6) hg hat)
      clear hown hg hat
      obtain ⟨w6', hw6⟩ : ∃ W, W = w' := ⟨_, rfl⟩
      rw [← hw6] at T6 S13_6 ⊢
      clear hw6
      refine hK' _ _ ⟨fun _ => HH.out _ _ _ _ _ _ _ T6.out, ?_⟩
      go_simp
      refine Until.all (rs := [14]) (by kernel_rfl) (by simp) ?_
      intro j hj
      simp only [List.mem_cons, List.not_mem_nil, or_false] at hj
      subst hj
      refine wpOp_open rfl ?_
      intro K' hK'
      refine step_append_rd rfl _ _ 32 rfl w0.heap.size 3 q1 _ 1 8 Try.underlying32 HQ1.out hy0 hy1 hy2 rfl (by decide) (.slice (some ⟨gm, 0, none⟩) nd cm) nd (ints nd (dec (dec mine x) y)) rfl T6.out.om _ 1 [.int .i64 1] rfl S13_6.out.rd rfl (by simp [Value.oneCell']) hn1 hn2 (Nat.le_trans hB8.out T6.out.kp.size) ?_
      intro v' w' hown hg hat
      obtain ⟨A7, m7, rfl, _⟩ := (Rd.of_own hown).form
      have T7 := Lib.hid (T6.out.second hown hg hat)
      clear hown hg hat
      obtain ⟨w7', hw7⟩ : ∃ W, W = w' := ⟨_, rfl⟩
      rw [← hw7] at T7  ⊢
      clear hw7
      refine hK' _ _ ⟨fun _ => HH.out _ _ _ _ _ _ _ T7.out, ?_⟩
      go_simp
      have CW := HL8.out.mem.wdTwo T7.out
      have z2 := CW.c2
      have z3 := CW.c3
      have f2 := CW.fz 2
      have f3 := CW.fz 3
      have HN := Lib.hid (HL8.out.mem.named (i := ii) (j := 1) T7.out)
      clear CW
      refine Until.take (i := 15) (v := wp' wb) rfl (by kernel_rfl) (by kernel_rfl) (by kernel_rfl) (fun _ _ _ h => h) rfl (Or.inl ⟨by rfl, fun w => by go_simp⟩) ?_
      go_simp
      refine Until.take (i := 16) (v := (.pointer (some ⟨wb, 2, none⟩))) rfl (by kernel_rfl) (by kernel_rfl) (by kernel_rfl) (fun _ _ _ h => h) rfl (Or.inl ⟨by rfl, fun w => by go_simp⟩) ?_
      go_simp
      refine Until.all (rs := [17]) (by kernel_rfl) (by simp) ?_
      intro j hj
      simp only [List.mem_cons, List.not_mem_nil, or_false] at hj
      subst hj
      refine wpOp_open rfl ?_
      intro K' hK'
      go_simp
      refine hK' _ _ ⟨by simp, ?_⟩
      refine Until.take (i := 18) (v := wp' wb) rfl (by kernel_rfl) (by kernel_rfl) (by kernel_rfl) (fun _ _ _ h => h) rfl (Or.inl ⟨by rfl, fun w => by go_simp⟩) ?_
      go_simp
      refine Until.take (i := 19) (v := (.pointer (some ⟨wb, 3, none⟩))) rfl (by kernel_rfl) (by kernel_rfl) (by kernel_rfl) (fun _ _ _ h => h) rfl (Or.inl ⟨by rfl, fun w => by go_simp⟩) ?_
      go_simp
      refine Until.all (rs := [20]) (by kernel_rfl) (by simp) ?_
      intro j hj
      simp only [List.mem_cons, List.not_mem_nil, or_false] at hj
      subst hj
      refine wpOp_open rfl ?_
      intro K' hK'
      go_simp
      refine hK' _ _ ⟨by simp, ?_⟩
      refine Until.done (by kernel_rfl) ?_
      clear z2 z3 f2 f3
      go_wp2_with fail
      go_ret
      exact ⟨ret_bool (by have := hi1'.out; simp; omega), nd + 1, _, _, _, _, _, _, _, _, _, _, by omega, HL8.out.ours HN.out.1 HN.out.2.1 HN.out.2.2, HI6.out⟩
  · refine wpOp_open rfl ?_
    intro K' hK'
    go_simp
    have T8 := Lib.hid (T0.out.alloc (.cells #[.int .i64 (1 : Int)] 3))
    have S8 := Lib.hid (T0.out.src 1 (w8.heap.size) (by simp))
    refine hK' _ _ ⟨fun _ => HH.out _ _ _ _ _ _ _ T8.out.drew, ?_⟩
    refine Until.all (rs := [7]) (by kernel_rfl) (by simp) ?_
    intro j hj
    simp only [List.mem_cons, List.not_mem_nil, or_false] at hj
    subst hj
    refine wpOp_open rfl ?_
    intro K' hK'
    go_simp
    have T9 := Lib.hid (T8.out.alloc (.cells #[.int .i64 (ii : Int)] 3))
    have S9 := Lib.hid (T8.out.src (ii : Int) (w8.heap.size + 1) (by simp))
    have S13_9 := Lib.hid (S8.out.alloc (.cells #[.int .i64 (ii : Int)] 3))
    refine hK' _ _ ⟨fun _ => HH.out _ _ _ _ _ _ _ T9.out.drew, ?_⟩
    refine Until.all (rs := [8]) (by kernel_rfl) (by simp) ?_
    intro j hj
    simp only [List.mem_cons, List.not_mem_nil, or_false] at hj
    subst hj
    refine wpOp_open rfl ?_
    intro K' hK'
    refine step_append_rd rfl _ _ 32 rfl w0.heap.size 3 q1 _ 1 8 Try.underlying32 HQ1.out hy0 hy1 hy2 rfl (by decide) (.slice A7 nd m7) nd (ints nd Nm) rfl T9.out.drew.on _ 1 [.int .i64 (ii : Int)] rfl S9.out.drew.rd rfl (by simp [Value.oneCell']) hn1 hn2 (Nat.le_trans hB8.out T9.out.drew.kp.size) ?_
    intro v' w' hown hg hat
    obtain ⟨A10, m10, rfl, _⟩ := (Rd.of_own hown).form
    have T10 := Lib.hid (T9.out.drew.first hown hg hat)
    have S13_10 := Lib.hid (S13_9.out.drew.first (v' := .slice A10 (nd + 1) m10) hg hat)
    clear hown hg hat
    obtain ⟨w10', hw10⟩ : ∃ W, W = w' := ⟨_, rfl⟩
    rw [← hw10] at T10 S13_10 ⊢
    clear hw10
    refine hK' _ _ ⟨fun _ => HH.out _ _ _ _ _ _ _ T10.out, ?_⟩
    go_simp
    refine Until.all (rs := [14]) (by kernel_rfl) (by simp) ?_
    intro j hj
    simp only [List.mem_cons, List.not_mem_nil, or_false] at hj
    subst hj
    refine wpOp_open rfl ?_
    intro K' hK'
    refine step_append_rd rfl _ _ 32 rfl w0.heap.size 3 q1 _ 1 8 Try.underlying32 HQ1.out hy0 hy1 hy2 rfl (by decide) (.slice (some ⟨gm, 0, none⟩) nd cm) nd (ints nd (dec (dec mine x) y)) rfl T10.out.om _ 1 [.int .i64 1] rfl S13_10.out.rd rfl (by simp [Value.oneCell']) hn1 hn2 (Nat.le_trans hB8.out T10.out.kp.size) ?_
    intro v' w' hown hg hat
    obtain ⟨A11, m11, rfl, _⟩ := (Rd.of_own hown).form
    have T11 := Lib.hid (T10.out.second hown hg hat)
    clear hown hg hat
    obtain ⟨w11', hw11⟩ : ∃ W, W = w' := ⟨_, rfl⟩
    rw [← hw11] at T11  ⊢
    clear hw11
    refine hK' _ _ ⟨fun _ => HH.out _ _ _ _ _ _ _ T11.out, ?_⟩
    go_simp
    have CW := HL8.out.mem.wdTwo T11.out
    have z2 := CW.c2
    have z3 := CW.c3
    have f2 := CW.fz 2
    have f3 := CW.fz 3
    have HN := Lib.hid (HL8.out.mem.named (i := ii) (j := 1) T11.out)
    clear CW
    refine Until.take (i := 15) (v := wp' wb) rfl (by kernel_rfl) (by kernel_rfl) (by kernel_rfl) (fun _ _ _ h => h) rfl (Or.inl ⟨by rfl, fun w => by go_simp⟩) ?_
    go_simp
    refine Until.take (i := 16) (v := (.pointer (some ⟨wb, 2, none⟩))) rfl (by kernel_rfl) (by kernel_rfl) (by kernel_rfl) (fun _ _ _ h => h) rfl (Or.inl ⟨by rfl, fun w => by go_simp⟩) ?_
    go_simp
    refine Until.all (rs := [17]) (by kernel_rfl) (by simp) ?_
    intro j hj
    simp only [List.mem_cons, List.not_mem_nil, or_false] at hj
    subst hj
    refine wpOp_open rfl ?_
    intro K' hK'
    go_simp
    refine hK' _ _ ⟨by simp, ?_⟩
    refine Until.take (i := 18) (v := wp' wb) rfl (by kernel_rfl) (by kernel_rfl) (by kernel_rfl) (fun _ _ _ h => h) rfl (Or.inl ⟨by rfl, fun w => by go_simp⟩) ?_
    go_simp
    refine Until.take (i := 19) (v := (.pointer (some ⟨wb, 3, none⟩))) rfl (by kernel_rfl) (by kernel_rfl) (by kernel_rfl) (fun _ _ _ h => h) rfl (Or.inl ⟨by rfl, fun w => by go_simp⟩) ?_
    go_simp
    refine Until.all (rs := [20]) (by kernel_rfl) (by simp) ?_
    intro j hj
    simp only [List.mem_cons, List.not_mem_nil, or_false] at hj
    subst hj
    refine wpOp_open rfl ?_
    intro K' hK'
    go_simp
    refine hK' _ _ ⟨by simp, ?_⟩
    refine Until.done (by kernel_rfl) ?_
    clear z2 z3 f2 f3
    go_wp2_with fail
    go_ret
    exact ⟨ret_bool (by have := hi1'.out; simp; omega), nd + 1, _, _, _, _, _, _, _, _, _, _, by omega, HL8.out.ours HN.out.1 HN.out.2.1 HN.out.2.2, HI6.out⟩
end

end Go.Proofs.Ytndbhcdiinpkkaa
